/-
  The walk of the reference's Get. By an AI agent.
-/
import Derived.Test.YtimbbfneaaglbaaGreatGHeadsPlays13
import Derived.Test.YtimbbfneaaglbaaGreatGHeadsPlays15
import Derived.RegionTactic
namespace Go.Proofs.YtimbbfneaaglbaaGreat.Record
open Go.RowKit Go.Proofs.YtimbbfneaaglbaaGreat.Ints Go.Proofs.YtimbbfneaaglbaaGreat.Mem Go.Proofs.YtimbbfneaaglbaaGreat.SumMath Go.Proofs.YtimbbfneaaglbaaGreat.SumWalks Go.Proofs.YtimbbfneaaglbaaGreat.Trace

theorem below_allocN {w w' : World} {o : Obj} {q : Nat} (hb : Below ((w.alloc o).drewN q).heap.size ((w.alloc o).drewN q) w') : Below w.heap.size w w' :=
  (below_drewN ((Below.refl w.heap.size w).alloc (Nat.le_refl _) o) q).trans (hb.mono (by simp))
theorem len_two {zs : List Int} (h : 2 ≤ zs.length) : numR (zs.take 2) = 256 * zs[0]?.getD 0 + zs[1]?.getD 0 := by
  match zs, h with
  | a :: b :: l, _ =>
    simp [numR]
    omega

set_option maxHeartbeats 8000000 in
set_option maxRecDepth 100000 in
theorem refGetR (A : Option Addr) (n c : Nat) (zs : List Int) (p : Int) (w : World) (hnc : n ≤ c) (hc : c ≤ maxLen) (h : Rd .u8 w A n zs) :
    Calls Tryz.prog 75 #[.slice A n c, .int .i64 p] w (GotGet w zs p) := by
  have q63 : maxLen = 9223372036854775807 := rfl
  obtain ⟨i0, hi, hi0, hi1, hi2⟩ := info_parts infoInt
  have hl := h.len
  have hpb := props_bd p
  obtain ⟨q, hq⟩ : ∃ q, propsR p = q := ⟨_, rfl⟩
  have hq2 : min (max p 0) 64 = q := hq
  rw [hq] at hpb
  obtain ⟨hp0, hp1⟩ := hpb
  have b0 := Blk.new w #[.int .u64 0, .slice none 0 0] 38 [.int .u64 0, .slice none 0 0] rfl
  have r0 := b0.cell 0 rfl
  have r1 := b0.cell 1 rfl
  have q0 := b0.fz 0 rfl
  have q1 := b0.fz 1 rfl
  have B0 := Lib.hid b0
  clear b0
  have bad : ∀ s : Nat, sizeE zs q = s → s ≠ 0 → Hid (∀ W, Below w.heap.size w W → GotGet w zs p (.returned (.tuple #[.agg #[.int .u64 0, .slice none 0 0], .int .i64 0, .int .i64 (s : Nat)])) W) := fun s hs h0 W hb =>
    got_none (by unfold errR; rw [hq, if_pos (by rw [hs]; exact h0), hs]) h0 hb
  by_cases h0 : n = 0
  · have HG := bad 13 (by unfold sizeE; rw [if_pos (by omega)]) (by decide)
    subst h0
    clear h hl hq bad
    go_enter Tryz.func75, Tryz.ntmps75
    go_wp2
    refine bodyPost_ret (v := .tuple #[.agg #[.int .u64 0, .slice none 0 0], .int .i64 0, .int .i64 13]) (by simp [results, Tryz.results75, go_sem, r0, r1]) rfl ?_
    exact HG.out _ ((Below.refl _ _).alloc (Nat.le_refl _) _)
  by_cases h1 : n = 1
  · have HG := bad 7 (by unfold sizeE; rw [if_neg (by omega), if_pos (by omega)]) (by decide)
    subst h1
    clear h hl hq bad
    go_enter Tryz.func75, Tryz.ntmps75
    go_wp2
    refine bodyPost_ret (v := .tuple #[.agg #[.int .u64 0, .slice none 0 0], .int .i64 0, .int .i64 7]) (by simp [results, Tryz.results75, go_sem, r0, r1]) rfl ?_
    exact HG.out _ ((Below.refl _ _).alloc (Nat.le_refl _) _)
  obtain ⟨b, off, rfl, hcell⟩ := h.cell (by omega)
  have x0 := hcell 0 (by omega)
  have x1 := hcell 1 (by omega)
  rw [Nat.add_zero] at x0
  have hL2 := len_two (zs := zs) (by omega)
  have hLb := len_bd (all_u8 h.all)
  have hy0 := h.u8 0 (by omega)
  have hy1 := h.u8 1 (by omega)
  obtain ⟨y0, e0⟩ : ∃ y, zs[0]?.getD 0 = y := ⟨_, rfl⟩
  obtain ⟨y1, e1⟩ : ∃ y, zs[1]?.getD 0 = y := ⟨_, rfl⟩
  rw [e0] at x0 hL2 hy0
  rw [e1] at x1 hL2 hy1
  obtain ⟨a0, a1⟩ := hy0
  obtain ⟨a2, a3⟩ := hy1
  have hlr : (lenR zs : Int) = 256 * y0 + y1 := by unfold lenR; omega
  have hs : sizeE zs q = if (256 * y0 + y1 < 8 ∨ 256 * y0 + y1 > 8 + q) then 2 else if n < lenR zs + 6 then 7 else 0 := by
    unfold sizeE
    rw [if_neg (by omega), if_neg (by omega), hlr, hl]
  obtain ⟨L, hLr⟩ : ∃ L, lenR zs = L := ⟨_, rfl⟩
  rw [hLr] at hlr hs
  have hn0 : ((n : Int) == 0) = false := by simp; omega
  have hn1 : ((n : Int) == 1) = false := by simp; omega
  have hn2 : (1 : Int) < (n : Int) := by omega
  have hn3 : (0 : Int) < (n : Int) := by omega
  have z0 := (Lib.cell?_alloc_marked (.cells #[.int .u64 0, .slice none 0 0] 38) x0)
  have z1 := (Lib.cell?_alloc_marked (.cells #[.int .u64 0, .slice none 0 0] 38) x1)
  have HEQ := Lib.hid hlr
  clear hcell e0 e1 hL2 hLb
  by_cases h2 : 256 * y0 + y1 < 8
  · have HG := bad 2 (by rw [hs, if_pos (Or.inl h2)]) (by decide)
    have h2' : decide (256 * y0 + y1 < 8) = true := decide_eq_true h2
    clear h hl hq bad hs hLr hlr
    go_enter Tryz.func75, Tryz.ntmps75
    go_wp2
    go_quiet (fail)
    go_wp2
    have z := (B0.out.drewN nq).set 0 (.int .u64 0) (by simp)
    have z0 := z.cell 0 rfl
    have z1 := (z.set 1 (.slice none 0 0) (by simp)).cell 1 rfl
    refine bodyPost_ret (v := .tuple #[.agg #[.int .u64 0, .slice none 0 0], .int .i64 0, .int .i64 2]) (by simp [results, Tryz.results75, go_sem, z0, z1]) rfl ?_
    exact HG.out _ (((below_drewN ((Below.refl _ _).alloc (Nat.le_refl _) _) nq).setCell (Nat.le_refl _) _).setCell (Nat.le_refl _) _)
  have h2' : decide (256 * y0 + y1 < 8) = false := decide_eq_false h2
  by_cases h3 : 256 * y0 + y1 > 8 + q
  · have HG := bad 2 (by rw [hs, if_pos (Or.inr h3)]) (by decide)
    have h3' : decide (256 * y0 + y1 > 8 + q) = true := decide_eq_true h3
    clear h hl hq bad hs hLr hlr
    go_enter Tryz.func75, Tryz.ntmps75
    go_wp2
    go_quiet (fail)
    go_wp2
    have z := (B0.out.drewN nq).set 0 (.int .u64 0) (by simp)
    have z0 := z.cell 0 rfl
    have z1 := (z.set 1 (.slice none 0 0) (by simp)).cell 1 rfl
    refine bodyPost_ret (v := .tuple #[.agg #[.int .u64 0, .slice none 0 0], .int .i64 0, .int .i64 2]) (by simp [results, Tryz.results75, go_sem, z0, z1]) rfl ?_
    exact HG.out _ (((below_drewN ((Below.refl _ _).alloc (Nat.le_refl _) _) nq).setCell (Nat.le_refl _) _).setCell (Nat.le_refl _) _)
  have h3' : decide (256 * y0 + y1 > 8 + q) = false := decide_eq_false h3
  by_cases h4 : n < L + 6
  · have HG := bad 7 (by rw [hs, if_neg (by omega), if_pos h4]) (by decide)
    have h4' : decide ((n : Int) < 256 * y0 + y1 + 6) = true := decide_eq_true (by omega)
    have h4'' : (n : Int) < 256 * y0 + y1 + 6 := by omega
    clear h hl hq bad hs hLr hlr
    go_enter Tryz.func75, Tryz.ntmps75
    go_wp2
    go_quiet (fail)
    go_wp2
    have z := (B0.out.drewN nq).set 0 (.int .u64 0) (by simp)
    have z0 := z.cell 0 rfl
    have z1 := (z.set 1 (.slice none 0 0) (by simp)).cell 1 rfl
    refine bodyPost_ret (v := .tuple #[.agg #[.int .u64 0, .slice none 0 0], .int .i64 0, .int .i64 7]) (by simp [results, Tryz.results75, go_sem, z0, z1]) rfl ?_
    exact HG.out _ (((below_drewN ((Below.refl _ _).alloc (Nat.le_refl _) _) nq).setCell (Nat.le_refl _) _).setCell (Nat.le_refl _) _)
  have h4' : decide ((n : Int) < 256 * y0 + y1 + 6) = false := decide_eq_false (by omega)
  have h4'' : ¬ ((n : Int) < 256 * y0 + y1 + 6) := by omega
  have hN : sizeE zs q = 0 := by rw [hs, if_neg (by omega), if_neg h4]
  have hL1 : 8 ≤ L := by omega
  have hL2 : L ≤ 72 := by omega
  have hL3 : L + 6 ≤ n := by omega
  have ht := h.take (m := L + 6) (by omega)
  have hR := (rights_both (some ⟨b, off, none⟩) (L + 6) c (zs.take (L + 6)) w (by omega) hc (by omega) ht).2
  have hE : errR zs (propsR p) = if sealedB (zs.take (L + 6)) = false then 6 else if idsOk (evR zs).ids q = false then 9 else 0 := by
    unfold errR
    rw [hq, if_neg (by omega), hLr]
  have g1 : (256 * y0 + y1 + 6).toNat = L + 6 := by omega
  have g2 : 256 * y0 + y1 + 6 ≤ (c : Int) := by omega
  have g3 : (0 : Int) ≤ 256 * y0 + y1 + 6 := by omega
  rcases hse : sealedB (zs.take (L + 6))
  · rw [if_pos hse] at hE
    have HG := Lib.hid (fun W (hb : Below w.heap.size w W) => got_none (w := w) (w' := W) hE (by decide) hb)
    have HR := Lib.hid (fun W => hR W)
    have HT := Lib.hid ht
    have HSE := Lib.hid hse
    clear h hl hq bad hs hLr hlr hN ht hR hE hse
    go_enter Tryz.func75, Tryz.ntmps75
    go_wp2
    go_quiet (fail)
    go_wp2_with fail
    have hR1 := HR.out ((w.alloc (.cells #[.int .u64 0, .slice none 0 0] 38)).drewN nq) ((HT.out.alloc _).drewN nq)
    unfold AnsR openN at hR1
    rw [HSE.out] at hR1
    have HR1 := Lib.hid hR1
    clear hR1 HR
    refine HR1.out.mono ?_
    rintro e w' ⟨A1, c1, rfl, -, -, -, hB1⟩
    have b1 := (B0.out.drewN nq).later hB1
    have s0 := b1.cell 0 rfl
    have s1 := b1.cell 1 rfl
    have t0 := b1.fz 0 rfl
    have t1 := b1.fz 1 rfl
    have z := b1.set 0 (.int .u64 0) (by simp)
    have z0 := z.cell 0 rfl
    have z1 := (z.set 1 (.slice none 0 0) (by simp)).cell 1 rfl
    clear b1 z
    go_wp2
    refine bodyPost_ret (v := .tuple #[.agg #[.int .u64 0, .slice none 0 0], .int .i64 0, .int .i64 6]) (by simp [results, Tryz.results75, go_sem, z0, z1]) rfl ?_
    exact HG.out _ (((below_allocN hB1).setCell (Nat.le_refl _) _).setCell (Nat.le_refl _) _)
  · rw [if_neg (by rw [hse]; decide)] at hE
    have htl : (zs.take (L + 6)).length = L + 6 := ht.len
    have hR2 := fun W hW => hR W hW
    unfold AnsR openN openL at hR2
    rw [hse, htl] at hR2
    simp only [if_true, List.take_take, show L + 6 - 4 = L + 2 by omega, show min (L + 2) (L + 6) = L + 2 by omega] at hR2
    have HR := Lib.hid hR2
    have HT := Lib.hid ht
    have h8b := num_bd 8 ((zs.drop 2).take 8) (by rw [List.length_take]; omega) (fun z hz => all_u8 h.all z (List.mem_of_mem_drop (List.mem_of_mem_take hz)))
    have hev : (evR zs).ids = (zs.take (L + 2)).drop 10 := by
      unfold evR
      rw [hLr, List.drop_take, show L + 2 - 10 = L - 8 by omega]
    have hlen : (evR zs).ids.length = L - 8 := by
      rw [hev, List.length_drop, List.length_take]
      omega
    have htm : (evR zs).time = numR ((zs.drop 2).take 8) := rfl
    have HBY := Lib.hid (all_u8 h.all)
    have HZL := Lib.hid hl
    have HE := Lib.hid hE
    obtain ⟨x, hx⟩ : ∃ x, evR zs = x := ⟨_, rfl⟩
    rw [hx] at hev hlen htm HE
    have HX := Lib.hid hx
    have HV := Lib.hid hev
    have HL := Lib.hid hlen
    have HTM := Lib.hid htm
    have H8 := Lib.hid h8b
    have HLR := Lib.hid hLr
    obtain ⟨ids, hids⟩ : ∃ ids, x.ids = ids := ⟨_, rfl⟩
    have HIDS := Lib.hid hids
    clear h hl hq bad hs hLr hlr hN ht hR hE hse hR2 htl h8b hev hlen htm hx hids
    go_enter Tryz.func75, Tryz.ntmps75
    go_wp2
    go_quiet (fail)
    go_wp2_with fail
    have HR1 := Lib.hid (HR.out ((w.alloc (.cells #[.int .u64 0, .slice none 0 0] 38)).drewN nq) ((HT.out.alloc _).drewN nq))
    refine HR1.out.mono ?_
    clear HR1 HR
    rintro e w1 ⟨A1, c1, rfl, hr1, hc1, hm1, hB1⟩
    have b1 := (B0.out.drewN nq).later hB1
    have hbw1 : Below w.heap.size w w1 := below_allocN hB1
    have hlt1 : w.heap.size < w1.heap.size := b1.1
    have B1 := Lib.hid b1
    have HB1 := Lib.hid hbw1
    have HR1 := Lib.hid hr1
    have HLT := Lib.hid hlt1
    obtain ⟨b', off', rfl, -⟩ := hr1.cell (by omega)
    clear b1 hB1 hbw1 hr1 hlt1 z0 z1 x0 x1
    go_wp2_with fail
    go_loopw [62] (fun i wr => ∃ (k : Nat) (z : Int), k ≤ 8 ∧ i = .int .i64 z ∧ z = k ∧ Blk wr w1.heap.size [.int .u64 (numR (((zs.drop 2).take 8).take k)), .slice none 0 0] ∧ Below w1.heap.size w1 wr) (fun i _ => 8 - (intOf i).toNat)
    case atStart => exact ⟨0, 0, Nat.zero_le _, rfl, rfl, Blk.new w1 #[.int .u64 0, .slice none 0 0] 38 _ rfl, (Below.refl _ _).alloc (Nat.le_refl _) _⟩
    case round =>
      obtain ⟨k, z, hk, rfl, hzk, hK1, hBr⟩ := hrel
      by_cases hk8 : k < 8
      · have HK := Lib.hid hzk
        subst hzk
        obtain ⟨b2, off2, e, hc⟩ := (HR1.out.below hBr).cell (by omega)
        simp only [Option.some.injEq, Addr.mk.injEq, and_true] at e
        obtain ⟨rfl, rfl⟩ := e
        have x0 := hc (2 + k) (by omega)
        have hyb := (HR1.out.below hBr).u8 (2 + k) (by omega)
        obtain ⟨y, hy⟩ : ∃ y, (zs.take (L + 2))[2 + k]?.getD 0 = y := ⟨_, rfl⟩
        rw [hy] at x0 hyb
        have hlen8 : ((zs.drop 2).take 8).length = 8 := by rw [List.length_take, List.length_drop]; have := HZL.out; omega
        have hyt : ((zs.drop 2).take 8)[k]?.getD 0 = y := by
          rw [← hy, List.getElem?_take_of_lt hk8, List.getElem?_drop, List.getElem?_take_of_lt (by omega)]
        have HS := Lib.hid (take_snoc ((zs.drop 2).take 8) k (by omega))
        rw [hyt] at HS
        have hbk := num_bd k (((zs.drop 2).take 8).take k) (by rw [List.length_take]; omega) (fun z hz => HBY.out z (List.mem_of_mem_drop (List.mem_of_mem_take (List.mem_of_mem_take hz))))
        have hpw : 256 ^ k ≤ 256 ^ 7 := Nat.pow_le_pow_right (by decide) (by omega)
        have h7 : (256 : Nat) ^ 7 = 72057594037927936 := by decide
        obtain ⟨X, hX⟩ : ∃ X, numR (((zs.drop 2).take 8).take k) = X := ⟨_, rfl⟩
        rw [hX] at hbk hK1
        have hx0 : 0 ≤ X := hbk.1
        have hx1 : X ≤ 72057594037927935 := by omega
        have HXX := Lib.hid hX
        obtain ⟨hyb0, hyb1⟩ := hyb
        have HO := Lib.hid (or_byte X y hx0 hx1 ⟨hyb0, hyb1⟩)
        have u0 := hK1.cell 0 rfl
        have v0 := hK1.fz 0 rfl
        have HK1 := Lib.hid hK1
        have k1 : IntKind.i64.wrap (2 + (k : Int)) = 2 + (k : Int) := IntWalk.i64_in _ (by omega)
        have k2 : (0 : Int) ≤ 2 + (k : Int) := by omega
        have k3 : (2 + (k : Int)).toNat = 2 + k := by omega
        have k4 : 2 + (k : Int) < ((L + 2 : Nat) : Int) := by omega
        have k5 : 2 + (k : Int) < (L : Int) + 2 := by omega
        clear hc hy hyt hlen8 hbk hpw h7 hX hK1
        go_wp2
        go_region
        all_goals
          go_wp2
          go_roundw
          case rel => exact ⟨k + 1, (k : Int) + 1, by omega, rfl, by omega, by rw [HS.out, num_snoc, HXX.out, ← HO.out]; exact (HK1.out.set 0 _ (by simp)).drew, (hBr.setCell (Nat.le_refl _) _).drew⟩
          case measure => simp [intOf]; omega
      · obtain rfl : k = 8 := by omega
        obtain rfl : z = 8 := hzk
        rw [List.take_of_length_le (by rw [List.length_take]; omega), ← HTM.out] at hK1
        have htw : (Lit.int .u64 x.time).wf = true := by
          rw [HTM.out]
          have := H8.out
          have e8 : (256 : Nat) ^ 8 = 18446744073709551616 := by decide
          simp [Lit.wf, IntKind.min, IntKind.max, IntKind.signed, IntKind.bits]
          omega
        have HTW := Lib.hid htw
        have HK1 := Lib.hid hK1
        have HBR := Lib.hid hBr
        have g5 : (10 : Int) ≤ ((L + 2 : Nat) : Int) := by omega
        have g6 : (10 : Int) ≤ (c1 : Int) := by omega
        have g7 : (10 : Int) ≤ (L : Int) + 2 := by omega
        clear hK1 hBr htw
        go_wp2_with fail
        all_goals
          have HSP : Hid (L = 8 ∨ 10 < c1) := by show _ ∨ _; omega
          have hZ := HBR.out.size
          go_loopw [80] (fun i wq => ∃ (k : Nat) (v : Value), k ≤ L - 8 ∧ i = .int .i64 k ∧ Blk wq w1.heap.size [.int .u64 x.time, v] ∧ wq.ownsRow (w1.heap.size + 1) 3 1 v k ((ids.take k).map (Value.int .i64)) ∧ Below w1.heap.size w1 wq ∧ w1.heap.size + 1 ≤ wq.heap.size) (fun i _ => (L - 8) - (intOf i).toNat)
          case atStart => exact ⟨0, _, Nat.zero_le _, rfl, HK1.out, World.ownsRow_nil _ _ _ _, HBR.out, HK1.out.1⟩
          case round =>
            obtain ⟨k, v, hk, rfl, hK1, hrow, hBr, hsz⟩ := hrel
            have e0 := hK1.cell 0 rfl
            have e1 := hK1.cell 1 rfl
            have f1 := hK1.fz 1 rfl
            by_cases hkm : k < L - 8
            · first
                | (exfalso; omega)
                | (have hd := (HR1.out.below hBr).drop (m := 10) (by omega)
                   rw [← HV.out, HIDS.out, show L + 2 - 10 = L - 8 by omega] at hd
                   obtain ⟨b2, off2, e, hc⟩ := hd.cell (by omega)
                   simp only [Option.some.injEq, Addr.mk.injEq, and_true] at e
                   obtain ⟨rfl, rfl⟩ := e
                   have x0 := hc k hkm
                   obtain ⟨y, hy⟩ : ∃ y, ids[k]?.getD 0 = y := ⟨_, rfl⟩
                   have hyb := hd.u8 k hkm
                   rw [hy] at x0 hyb
                   have HS := Lib.hid (take_snoc ids k (by rw [hd.len]; exact hkm))
                   have HY := Lib.hid hy
                   have HR := Lib.hid hrow
                   have HK1' := Lib.hid hK1
                   obtain ⟨A2, c2, rfl, hc2, hm2, -, hb2⟩ := own_slice hrow
                   obtain ⟨yb0, yb1⟩ := hyb
                   clear hc hy hrow hK1 hd
                   have hne : ∀ g, g < w1.heap.size + 1 → some g ≠ (Value.slice A2 k c2).ownBlock := fun g hg e => by
                     cases A2 with
                     | none => simp [Value.ownBlock] at e
                     | some a => simp [Value.ownBlock] at e; have := (hb2 a rfl).1; omega
                   have hsz2 : w1.heap.size + 1 ≤ wr.heap.size := hsz
                   go_wp2_with (at_builtin; refine wpList_append_ints rfl _ _ 24 rfl .i64 (w1.heap.size + 1) 3 i0 8 Tryz.underlying24 hi hi0 hi1 hi2 _ _ _ rfl (HR.out.alloc _) _ 1 1 [y] rfl (Rd.lit wr 3 (0, 0) [y] (byte_i64 ⟨yb0, yb1⟩)) (by omega) (by omega) (le_alloc hsz2) ?_; intro v2 w2 hown2 hgr2; obtain ⟨A3, c3, rfl, -⟩ := own_slice hown2; have hK2 := (HK1'.out.alloc (.cells #[.int .i64 y] 3)).grown hgr2 (hne _ (by omega)); have y1 := hK2.cell 1 rfl; have y2 := hK2.fz 1 rfl)
                   go_roundw
                   case rel =>
                     have hB2 := (hBr.alloc hBr.size (.cells #[.int .i64 y] 3)).grown hgr2 (le_alloc hBr.size) (fun q hq => by have := (HR.out.lt q hq).1; omega)
                     have hs2 : w1.heap.size + 1 ≤ w2.heap.size := Nat.le_trans (le_alloc (o := .cells #[.int .i64 y] 3) hsz2) hgr2.size
                     exact ⟨k + 1, .slice A3 (k + 1) c3, by omega, by go_num, hK2.set 1 _ (by simp), own_other (row_more (ys := ids.take (k + 1)) rfl (by rw [HS.out, HY.out]) hown2) ⟨w1.heap.size, 1, none⟩ (.slice A3 (k + 1) c3) (Nat.lt_succ_self _), hB2.setCell (Nat.le_refl _) _, by simpa [World.setCell] using hs2⟩
                   case measure => simp [intOf]; omega)
            · obtain rfl : k = L - 8 := by omega
              have hil : ids.length = L - 8 := by rw [← HIDS.out]; exact HL.out
              have hib : ∀ z ∈ ids, (Lit.int .i64 z).wf = true := bytes_i64 (fun z hz => HBY.out z (by
                rw [← HIDS.out, HV.out] at hz
                exact List.mem_of_mem_take (List.mem_of_mem_drop hz)))
              rw [List.take_of_length_le (by omega)] at hrow
              obtain ⟨A2, c2, rfl, hc2, hm2, -, hb2⟩ := own_slice hrow
              have hrd := Rd.own hrow hib
              have FI := refIds A2 (L - 8) c2 q ids wr hrd (by omega) ⟨by omega, by omega⟩
              have B0' := B1.out.below hBr HLT.out
              have hBW := HB1.out.trans (hBr.mono HB1.out.size)
              have HFI := Lib.hid FI
              have HBW := Lib.hid hBW
              have HRD := Lib.hid hrd
              have HK2 := Lib.hid hK1
              have HB0 := Lib.hid B0'
              have HB2 := Lib.hid hb2
              clear hrow hrd FI B0' hBW hK1 hBr hil hib
              go_wp2_with fail
              rcases hok : idsOk ids q
              · have hE2 := HE.out
                rw [HIDS.out, if_pos hok] at hE2
                have HG := Lib.hid (fun W (hb : Below w.heap.size w W) => got_none (w := w) (w' := W) hE2 (by decide) hb)
                have HF := Lib.hid (hok ▸ HFI.out)
                have s0 := HB0.out.cell 0 rfl
                have s1 := HB0.out.cell 1 rfl
                have t0 := HB0.out.fz 0 rfl
                have t1 := HB0.out.fz 1 rfl
                have z := HB0.out.set 0 (.int .u64 0) (by simp)
                have z0 := z.cell 0 rfl
                have z1 := (z.set 1 (.slice none 0 0) (by simp)).cell 1 rfl
                clear hE2 hok z
                refine HF.out.mono ?_
                rintro e w3 ⟨rfl, rfl⟩
                go_wp2
                refine bodyPost_ret (v := .tuple #[.agg #[.int .u64 0, .slice none 0 0], .int .i64 0, .int .i64 9]) (by simp [results, Tryz.results75, go_sem, z0, z1]) rfl ?_
                exact HG.out _ ((HBW.out.setCell (Nat.le_refl _) _).setCell (Nat.le_refl _) _)
              · have hE2 := HE.out
                rw [HIDS.out, if_neg (by rw [hok]; decide)] at hE2
                have HE2 := Lib.hid hE2
                have HF := Lib.hid (hok ▸ HFI.out)
                have s0 := HB0.out.cell 0 rfl
                have s1 := HB0.out.cell 1 rfl
                have t0 := HB0.out.fz 0 rfl
                have t1 := HB0.out.fz 1 rfl
                have z := HB0.out.set 0 (.int .u64 x.time) (by simp)
                have z0 := z.cell 0 rfl
                have z1 := (z.set 1 (.slice A2 (L - 8) c2) (by simp)).cell 1 rfl
                clear hE2 hok z
                refine HF.out.mono ?_
                rintro e w3 ⟨rfl, rfl⟩
                go_wp2
                refine bodyPost_ret (v := .tuple #[.agg #[.int .u64 x.time, .slice A2 (L - 8) c2], .int .i64 (256 * y0 + y1 + 6), .int .i64 0]) (by simp [results, Tryz.results75, go_sem, z0, z1]) rfl ?_
                have e1 : getE zs p = x := by unfold getE; rw [if_pos HE2.out, HX.out]
                have e2 : getN zs p = L + 6 := by unfold getN; rw [if_pos HE2.out, HLR.out]
                unfold GotGet
                rw [e1, e2, HE2.out, HL.out]
                refine ⟨A2, c2, ?_, ⟨HTW.out, ?_, by rw [HL.out]; exact hc2, hm2⟩, (HBW.out.setCell (Nat.le_refl _) _).setCell (Nat.le_refl _) _, fun a ha => ?_⟩
                · have := HEQ.out
                  rw [show 256 * y0 + y1 + 6 = ((L + 6 : Nat) : Int) by omega]
                  rfl
                · have hil : ids.length = L - 8 := by rw [← HIDS.out]; exact HL.out
                  rw [HIDS.out, hil]
                  refine HRD.out.keep fun a u ha hu => ?_
                  obtain ⟨a1, e3, e4⟩ : ∃ a1, A2 = some a1 ∧ a1.block = a.block := by
                    cases A2 with
                    | none => cases ha
                    | some a1 => simp at ha; exact ⟨a1, rfl, ha⟩
                  have hge := (HB2.out a1 e3).1
                  have hlt1 := HLT.out
                  rw [set2_cell _ w.heap.size _ _ a (by omega)]
                  exact hu
                · have := (HB2.out a ha).1
                  have := HLT.out
                  omega
end Go.Proofs.YtimbbfneaaglbaaGreat.Record
