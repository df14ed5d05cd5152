/-
  The walk of the reference's Records with a fault (stage 13). Written by wip/tools/genrecs13.py. By an AI agent.
-/
import Derived.Test.YtimbbfneaaglbaaGreatGHeadsPlays19
import Derived.Test.YtimbbfneaaglbaaGreatGHeadsPlays21
namespace Go.Proofs.YtimbbfneaaglbaaGreat.Log
open Go.RowKit Go.Proofs.YtimbbfneaaglbaaGreat.Ints Go.Proofs.YtimbbfneaaglbaaGreat.Mem Go.Proofs.YtimbbfneaaglbaaGreat.SumMath Go.Proofs.YtimbbfneaaglbaaGreat.SumWalks Go.Proofs.YtimbbfneaaglbaaGreat.Trace Go.Proofs.YtimbbfneaaglbaaGreat.Record

/-- What is wrong behind what can be read, where a fault cuts it off. -/
def mapE (e : Nat) : Nat := if e = 13 ∨ e = 7 then 10 else e
/-- The records of bytes that a fault cuts off. -/
def recordsC (b : List Int) : Tr × Nat :=
  if (headD b 10).2.2 ≠ 0 then (noTr, (headD b 10).2.2)
  else (⟨(headD b 10).1, (recsD b (headD b 10).1.length (b.length + 1) (headD b 10).2.1 0 []).1⟩, mapE (recsD b (headD b 10).1.length (b.length + 1) (headD b 10).2.1 0 []).2)

set_option maxHeartbeats 16000000 in
set_option maxRecDepth 100000 in
theorem refRecordsN (A : Option Addr) (n c : Nat) (zs : List Int) (w : World) (hnc : n ≤ c) (hc : c ≤ maxLen) (hn : n ≤ 58000000) (h : Rd .u8 w A n zs) (fault : Int) (hfa : fault < 0) :
    Calls Tryz.prog 42 #[.slice A n c, .int .i64 fault] w (GotRecs w (recordsD zs).1 (recordsD zs).2) := by
  have q63 : maxLen = 9223372036854775807 := rfl
  have hfb : ¬ (fault ≥ 0) := by omega
  obtain ⟨i0, hi, hz0, hz1, hz2⟩ := info_parts infoEvent
  have hl := h.len
  have b0 := Blk.new w #[.slice none 0 0, .slice none 0 0] 33 [.slice none 0 0, .slice none 0 0] rfl
  have hal := (Below.refl _ w).alloc (Nat.le_refl _) (.cells #[.slice none 0 0, .slice none 0 0] 33)
  have FH := refHead0 A n c zs (w.alloc (.cells #[.slice none 0 0, .slice none 0 0] 33)) hnc hc (h.alloc _)
  unfold GotHead at FH
  obtain ⟨ns, hns⟩ : ∃ ns, (headD zs 5).1 = ns := ⟨_, rfl⟩
  obtain ⟨p0, hp0⟩ : ∃ p0, (headD zs 5).2.1 = p0 := ⟨_, rfl⟩
  obtain ⟨e0, he0⟩ : ∃ e0, (headD zs 5).2.2 = e0 := ⟨_, rfl⟩
  rw [hns, hp0, he0] at FH
  have HH := Lib.hid FH
  have HB0 := Lib.hid b0
  have HAL := Lib.hid hal
  have hns64 : ns.length ≤ 64 := by rw [← hns]; exact (head_names (by decide)).1
  by_cases hE : e0 = 0
  rotate_left
  · have HR := Lib.hid (show recordsD zs = (noTr, e0) by unfold recordsD; rw [he0, if_pos hE])
    have he1 : ((e0 : Int) == 0) = false := by simp; omega
    clear FH b0 hal hns hp0 he0 h hl
    go_enter Tryz.func42, Tryz.ntmps42
    go_wp2_with fail
    refine HH.out.mono ?_
    rintro e w1 ⟨A1, c1, rfl, -, hB1⟩
    have b1 := HB0.out.later hB1
    have r0 := b1.cell 0 rfl
    have r1 := b1.cell 1 rfl
    have q0 := b1.fz 0 rfl
    have q1 := b1.fz 1 rfl
    have z := b1.set 0 (.slice none 0 0) (by simp)
    have z0 := z.cell 0 rfl
    have z1 := (z.set 1 (.slice none 0 0) (by simp)).cell 1 rfl
    have HB1 := Lib.hid (HAL.out.trans (hB1.mono HAL.out.size))
    clear b1 z hB1
    go_wp2
    refine bodyPost_ret (v := .tuple #[.agg #[.slice none 0 0, .slice none 0 0], .int .i64 (e0 : Nat)]) (by simp [results, Tryz.results42, go_sem, z0, z1]) rfl ?_
    rw [HR.out]
    exact ⟨none, 0, none, 0, rfl, TrOk.none _ _, (fun a e => by cases e), (HB1.out.setCell (Nat.le_refl _) _).setCell (Nat.le_refl _) _⟩
  subst hE
  have hple : p0 ≤ n := by rw [← hl, ← hp0]; exact (head_place (by decide) he0).2
  have hn9 : 9 ≤ n := by have := (head_place (by decide) he0).1; omega
  obtain ⟨R, hR⟩ : ∃ R, recsD zs ns.length (n + 1) p0 0 [] = R := ⟨_, rfl⟩
  have HR := Lib.hid (show recordsD zs = (⟨ns, R.1⟩, R.2) by unfold recordsD; rw [he0, if_neg (fun h => h rfl), hns, hp0, hl, hR])
  have HRR := Lib.hid hR
  obtain ⟨b, off, rfl, -⟩ := h.cell (by omega)
  have HNS := Lib.hid (show ∀ s ∈ ns, s.length ≤ maxLen from fun s hs => by rw [← hns] at hs; have := (head_names (by decide)).2 s hs; omega)
  have HD := Lib.hid h
  have HL := Lib.hid hl
  have HBY := Lib.hid (all_u8 h.all)
  clear FH b0 hal hns hp0 he0 h hl hR
  go_enter Tryz.func42, Tryz.ntmps42
  go_wp2_with fail
  refine HH.out.mono ?_
  rintro e w1 ⟨NA, nc, rfl, hown1, hB1⟩
  obtain ⟨-, hstr, hncc, hncm⟩ := strs_own hown1
  have HNA := Lib.hid (show ∀ a, NA = some a → w.heap.size < a.block from fun a e => by
    obtain ⟨A', c', e1, -, -, -, h5⟩ := own_slice hown1
    injection e1 with e1
    subst e1
    have := (h5 a e).1
    simp at this
    omega)
  have b1 := HB0.out.later hB1
  have hB2 := HAL.out.trans (hB1.mono HAL.out.size)
  have t1 := Blk.new w1 #[.slice NA ns.length nc, .slice none 0 0] 33 [.slice NA ns.length nc, .slice none 0 0] rfl
  have HB1 := Lib.hid b1
  have HB2 := Lib.hid hB2
  have HT1 := Lib.hid t1
  have HSTR := Lib.hid hstr
  have hlt1 : w.heap.size < w1.heap.size := b1.1
  clear b1 hB1 hB2 t1 hown1 hstr HH HB0 HAL
  go_wp2_with fail
  go_loopw [8, 11] (fun q lt wr => ∃ (p : Nat) (last : Int) (v : Value) (l : List SEv) (f : Nat), q = .int .i64 p ∧ lt = .int .u64 last ∧ p ≤ n ∧ n < p + f ∧ 14 * l.length ≤ p ∧ 0 ≤ last ∧ last ≤ 18446744073709551615 ∧ Blk wr w.heap.size [.slice none 0 0, .slice none 0 0] ∧
      Blk wr w1.heap.size [.slice NA ns.length nc, v] ∧ OwnEvs (fun b => w1.heap.size < b) wr (w1.heap.size + 1) v l ∧ Below w1.heap.size w1 wr ∧ Hid (recsD zs ns.length f p last (l.map (·.1)) = R)) (fun q _ _ => n + 1 - (intOf q).toNat)
  case atStart => exact ⟨p0, 0, _, [], n + 1, rfl, rfl, hple, by omega, by simp, by omega, by omega, HB1.out.alloc _, HT1.out, OwnEvs.nil _ _ _, (Below.refl _ _).alloc (Nat.le_refl _) _, HRR.out⟩
  case round =>
    obtain ⟨p, last, v, l, f, rfl, rfl, hp, hf, hl14, hl0, hl1, hK0, hK1, hrow, hBr, hN⟩ := hrel
    obtain ⟨f', rfl⟩ : ∃ f', f = f' + 1 := ⟨f - 1, by omega⟩
    obtain ⟨EA, ec, rfl, -, hec1, hec2⟩ := hrow.reads (fun b hb _ => hb)
    have hgr : w1.heap.size < wr.heap.size := hK1.1
    have hBw := HB2.out.trans (hBr.mono HB2.out.size)
    obtain ⟨A', hsl, hrd⟩ : ∃ A', (∀ W, (Instr.slice 28 (.slice (some ⟨b, off, none⟩) n c) (some (.int .i64 (p : Int))) none none).run Tryz.prog W = .ok (.slice A' (n - p) (c - p)) W) ∧ Rd .u8 wr A' (n - p) (zs.drop p) := by
      refine ⟨fromAddr (some ⟨b, off, none⟩) c p 1, fun W => slice_from 28 (by kernel_rfl) 1 (by kernel_rfl) _ n c p hp W, ?_⟩
      have hd := (HD.out.below hBw).drop hp
      unfold fromAddr
      split
      · have e : n - p = 0 := by omega
        rw [e] at hd ⊢
        rw [List.eq_nil_of_length_eq_zero hd.len]
        exact Rd.nil _ _ _
      · have e : (⟨b, off, none⟩ : Addr).add (p * 1) = ⟨b, off + p, none⟩ := by unfold Addr.add; split <;> simp_all
        show Rd .u8 wr (some ((⟨b, off, none⟩ : Addr).add (p * 1))) _ _
        rw [e]
        exact hd
    have FG := refGetR A' (n - p) (c - p) (zs.drop p) (ns.length : Int) wr (by omega) (by omega) hrd
    unfold GotGet at FG
    have hyb : ∀ z ∈ zs.drop p, 0 ≤ z ∧ z ≤ 255 := fun z hz => HBY.out z (List.mem_of_mem_drop hz)
    have hyt := ev_time hyb
    have HOK := Lib.hid (fun h => get_ok (b := zs.drop p) (p := (ns.length : Int)) h)
    have HYL := Lib.hid (show (zs.drop p).length = n - p by rw [List.length_drop, HL.out])
    obtain ⟨y, hy⟩ : ∃ y, zs.drop p = y := ⟨_, rfl⟩
    have HNE := Lib.hid (fun e h he => recsD_err (b := zs) (props := (ns.length : Int)) (last := last) (es := l.map (·.1)) (p := p) (e := e) f' h he)
    have HNT := Lib.hid (fun h h2 => recsD_time (b := zs) (props := (ns.length : Int)) (last := last) (es := l.map (·.1)) (p := p) f' h h2)
    have HNN := Lib.hid (fun h h2 => recsD_next (b := zs) (props := (ns.length : Int)) (last := last) (es := l.map (·.1)) (p := p) f' h h2)
    rw [hy] at FG hyt HOK HYL HNE HNT HNN
    obtain ⟨x, hx⟩ : ∃ x, getE y (ns.length : Int) = x := ⟨_, rfl⟩
    obtain ⟨q, hq⟩ : ∃ q, getN y (ns.length : Int) = q := ⟨_, rfl⟩
    obtain ⟨er, her⟩ : ∃ er, errR y (propsR (ns.length : Int)) = er := ⟨_, rfl⟩
    rw [hx, hq, her] at FG
    rw [her] at HOK HNE HNT HNN
    rw [hx, hq] at HOK
    have HG := Lib.hid FG
    have HK0 := Lib.hid hK0
    have HK1 := Lib.hid hK1
    have HROW := Lib.hid hrow
    have HBR := Lib.hid hBr
    have HBW := Lib.hid hBw
    clear FG hrd hyb hy hx hq her hK0 hK1 hrow hBr hBw
    go_wp2_with fail
    refine HG.out.mono ?_
    rintro e w3 ⟨K, ck, rfl, hk, hB3, hfar⟩
    have hal4 := (Below.refl _ w3).alloc (Nat.le_refl _) (.cells #[.int .u64 x.time, .slice K x.ids.length ck] 38)
    have hx4 := Blk.new w3 #[.int .u64 x.time, .slice K x.ids.length ck] 38 [.int .u64 x.time, .slice K x.ids.length ck] rfl
    have hs34 : (w3.alloc (.cells #[.int .u64 x.time, .slice K x.ids.length ck] 38)).heap.size = w3.heap.size + 1 := by simp
    have hB34 := hB3.trans (hal4.mono hB3.size)
    have hk4 := hk.below hal4
    obtain ⟨W4, hW4⟩ : ∃ W4, w3.alloc (.cells #[.int .u64 x.time, .slice K x.ids.length ck] 38) = W4 := ⟨_, rfl⟩
    rw [hW4] at hx4 hs34 hB34 hk4
    have HG0 := Lib.hid (HK0.out.later hB34)
    have HGT := Lib.hid (HK1.out.later hB34)
    have HX4 := Lib.hid hx4
    have HO4 := Lib.hid (HROW.out.below hB34)
    have HBR4 := Lib.hid (HBR.out.trans (hB34.mono HBR.out.size))
    have HB4 := Lib.hid (HBW.out.trans (hB34.mono HBW.out.size))
    have HS4 := Lib.hid (HSTR.out.below HBR4.out)
    have HKX := Lib.hid (show KidOk (fun b => w1.heap.size < b ∧ some b ≠ (Value.slice EA l.length ec).ownBlock) W4 (x, K, ck) from ⟨hk4, fun a e _ => by
      have h1 := hfar a e
      refine ⟨by omega, fun e2 => ?_⟩
      have := (HROW.out.1.lt a.block e2.symm).2
      omega⟩)
    have HW4S := Lib.hid hs34
    have HNE3 := Lib.hid (show some w3.heap.size ≠ (Value.slice EA l.length ec).ownBlock from fun e => by
      have := (HROW.out.1.lt _ e.symm).2
      have := hB3.size
      omega)
    have x0 := hx4.cell 0 rfl
    have x1 := hx4.cell 1 rfl
    have y0 := HGT.out.cell 0 rfl
    have y1 := HGT.out.cell 1 rfl
    have yf := HGT.out.fz 1 rfl
    have r0 := HG0.out.cell 0 rfl
    have r1 := HG0.out.cell 1 rfl
    have rf0 := HG0.out.fz 0 rfl
    have rf1 := HG0.out.fz 1 rfl
    clear hal4 hB34 hk4 hk hfar hB3 HK0 HK1 HROW HBR HBW hx4 hs34
    by_cases her0 : er = 0
    rotate_left
    · have hRv : (l.map (·.1), er) = R := by rw [← hN.out]; exact (HNE.out er rfl her0).symm
      have her1 : ((er : Int) == 0) = false := by simp; omega
      have z := HG0.out.set 0 (.slice NA ns.length nc) (by simp)
      have z0 := z.cell 0 rfl
      have z1 := (z.set 1 (.slice EA l.length ec) (by simp)).cell 1 rfl
      clear z
      go_wp2
      refine bodyPost_ret (v := .tuple #[.agg #[.slice NA ns.length nc, .slice EA l.length ec], .int .i64 (er : Nat)]) (by simp [results, Tryz.results42, go_sem, z0, z1]) rfl ?_
      rw [HR.out, ← hRv]
      refine ⟨NA, nc, EA, ec, by rw [List.length_map], ?_, (fun a e => Nat.le_of_lt (HNA.out a e)), (HB4.out.setCell (Nat.le_refl _) _).setCell (Nat.le_refl _) _⟩
      rw [List.length_map]
      exact recs_end HS4.out HNA.out HNS.out ⟨hncc, hncm⟩ HO4.out hlt1 _ _
    · subst her0
      obtain ⟨hxe, hqe, hq14, hqn⟩ := HOK.out rfl
      have hyl := HYL.out
      obtain ⟨t3, ht3⟩ : ∃ t3, x.time = t3 := ⟨_, rfl⟩
      have ht0 : 0 ≤ t3 ∧ t3 ≤ 18446744073709551615 := by rw [← ht3, hxe]; exact hyt
      obtain ⟨ht0, ht1⟩ := ht0
      obtain ⟨m3, hm3⟩ : ∃ m3, x.ids.length = m3 := ⟨_, rfl⟩
      have HM3 := Lib.hid hm3
      have HT3 := Lib.hid ht3
      rw [ht3] at x0 hW4
      rw [hm3] at x1 hW4
      rw [ht3, hm3]
      rw [← hxe] at HNT HNN
      rw [← hqe] at HNN
      rw [ht3] at HNT HNN
      have hq14' : 14 ≤ q := by omega
      have hqn' : q ≤ n - p := by omega
      clear hxe hqe hyt hq14 hqn
      by_cases hlt : t3 < last
      · have hRv : (l.map (·.1), 8) = R := by rw [← hN.out]; exact (HNT.out rfl hlt).symm
        have hlt' : decide (t3 < last) = true := decide_eq_true hlt
        clear hm3 ht3
        have z := HG0.out.set 0 (.slice NA ns.length nc) (by simp)
        have z0 := z.cell 0 rfl
        have z1 := (z.set 1 (.slice EA l.length ec) (by simp)).cell 1 rfl
        clear z
        go_wp2
        refine bodyPost_ret (v := .tuple #[.agg #[.slice NA ns.length nc, .slice EA l.length ec], .int .i64 8]) (by simp [results, Tryz.results42, go_sem, z0, z1]) rfl ?_
        rw [HR.out, ← hRv]
        refine ⟨NA, nc, EA, ec, by rw [List.length_map]; rfl, ?_, (fun a e => Nat.le_of_lt (HNA.out a e)), (HB4.out.setCell (Nat.le_refl _) _).setCell (Nat.le_refl _) _⟩
        rw [List.length_map]
        exact recs_end HS4.out HNA.out HNS.out ⟨hncc, hncm⟩ HO4.out hlt1 _ _
      · have HNX := Lib.hid (show recsD zs ns.length f' (p + q) t3 ((l ++ [(x, K, ck)]).map (·.1)) = R by
          rw [← hN.out, HNN.out rfl (by omega), List.map_append]
          rfl)
        have hlt' : decide (t3 < last) = false := decide_eq_false hlt
        have hsz4 : w1.heap.size + 1 ≤ W4.heap.size := HGT.out.1
        have hne : ∀ g, g < w1.heap.size + 1 → some g ≠ (Value.slice EA l.length ec).ownBlock := fun g hg e => by
          have := (HO4.out.1.lt g e.symm).1
          omega
        have HNEB := Lib.hid hne
        have hl4 : l.length ≤ 4194304 := by omega
        clear hm3 ht3 hne
        go_wp2_with (at_builtin; refine wpList_append_nd rfl (.tmp 70) (.tmp 72) 31 rfl (w1.heap.size + 1) i0 _ Tryz.underlying31 hi hz0 hz1 hz2 rfl (.slice EA l.length ec) l (by rfl) (fun b => w1.heap.size < b) HO4.out (x, K, ck) HKX.out _ _ (by rw [← HT3.out, ← HM3.out]; rfl) W4.heap.size rfl (by rfl) hl4 hsz4 ?_; intro v6 w6 hown6 hgr6 hat6; obtain ⟨EA6, ec6, rfl, -, hec61, hec62⟩ := hown6.reads (fun b hb _ => hb); have hGT6 := (HGT.out.alloc _).grown hgr6 (HNEB.out _ (by omega)); have y61 := hGT6.cell 1 rfl; have y6f := hGT6.fz 1 rfl; have hX6 := (HX4.out.alloc _).grown hgr6 HNE3.out; have x60 := hX6.cell 0 rfl; have x61 := hX6.cell 1 rfl)
        go_roundw
        case rel =>
          have hB0 := (((HG0.out.alloc (.cells #[.int .u64 t3, .slice K m3 ck] 38)).grown hgr6 (HNEB.out _ (by omega))).other ⟨w1.heap.size, 1, none⟩ (.slice EA6 (l.length + 1) ec6) (by show w.heap.size ≠ w1.heap.size; omega))
          have hBL := (((HBR4.out.alloc HBR4.out.size (.cells #[.int .u64 t3, .slice K m3 ck] 38)).grown hgr6 (le_alloc HBR4.out.size) (fun z hz => by have := (HO4.out.1.lt z hz).1; omega)).setCell (p := ⟨w1.heap.size, 1, none⟩) (Nat.le_refl _) (.slice EA6 (l.length + 1) ec6))
          have hOE := hown6.keep (grown_set w6 ⟨w1.heap.size, 1, none⟩ (.slice EA6 (l.length + 1) ec6)) (Or.inr (fun e => by
            have h7 : w1.heap.size + 1 ≤ w1.heap.size := (hown6.1.lt _ e).1
            omega)) (fun b hb e => by injection e with e; subst e; exact Nat.lt_irrefl _ hb)
          have e6 : (l ++ [(x, K, ck)]).length = l.length + 1 := by rw [List.length_append]; rfl
          rw [e6] at hOE
          have hT := hGT6.set 1 (.slice EA6 (l.length + 1) ec6) (by simp)
          have a1 : p + q ≤ n := by omega
          have a2 : n < p + q + f' := by omega
          have a3 : 14 * (l ++ [(x, K, ck)]).length ≤ p + q := by rw [e6]; omega
          have a4 : (p : Int) + (q : Int) = ((p + q : Nat) : Int) := by omega
          exact ⟨p + q, t3, .slice EA6 (l.length + 1) ec6, l ++ [(x, K, ck)], f', by rw [a4], by rw [HT3.out], a1, a2, a3, ht0, ht1, hB0, hT, hOE, hBL, HNX.out⟩
        case measure =>
          simp only [intOf]
          have a5 : ((p : Int) + (q : Int)).toNat = p + q := by omega
          rw [a5, Int.toNat_natCast]
          omega
set_option maxHeartbeats 16000000 in
set_option maxRecDepth 100000 in
theorem refRecordsP (A : Option Addr) (n c : Nat) (zs : List Int) (w : World) (hnc : n ≤ c) (hc : c ≤ maxLen) (hn : n ≤ 58000000) (h : Rd .u8 w A n zs) (fault : Int) (hfa : (n : Int) ≤ fault) :
    Calls Tryz.prog 42 #[.slice A n c, .int .i64 fault] w (GotRecs w (recordsD zs).1 (recordsD zs).2) := by
  have q63 : maxLen = 9223372036854775807 := rfl
  have hfb : fault ≥ 0 := by omega
  have hfc : ¬ (fault < (n : Int)) := by omega
  obtain ⟨i0, hi, hz0, hz1, hz2⟩ := info_parts infoEvent
  have hl := h.len
  have b0 := Blk.new w #[.slice none 0 0, .slice none 0 0] 33 [.slice none 0 0, .slice none 0 0] rfl
  have hal := (Below.refl _ w).alloc (Nat.le_refl _) (.cells #[.slice none 0 0, .slice none 0 0] 33)
  have FH := refHead0 A n c zs (w.alloc (.cells #[.slice none 0 0, .slice none 0 0] 33)) hnc hc (h.alloc _)
  unfold GotHead at FH
  obtain ⟨ns, hns⟩ : ∃ ns, (headD zs 5).1 = ns := ⟨_, rfl⟩
  obtain ⟨p0, hp0⟩ : ∃ p0, (headD zs 5).2.1 = p0 := ⟨_, rfl⟩
  obtain ⟨e0, he0⟩ : ∃ e0, (headD zs 5).2.2 = e0 := ⟨_, rfl⟩
  rw [hns, hp0, he0] at FH
  have HH := Lib.hid FH
  have HB0 := Lib.hid b0
  have HAL := Lib.hid hal
  have hns64 : ns.length ≤ 64 := by rw [← hns]; exact (head_names (by decide)).1
  by_cases hE : e0 = 0
  rotate_left
  · have HR := Lib.hid (show recordsD zs = (noTr, e0) by unfold recordsD; rw [he0, if_pos hE])
    have he1 : ((e0 : Int) == 0) = false := by simp; omega
    clear FH b0 hal hns hp0 he0 h hl
    go_enter Tryz.func42, Tryz.ntmps42
    go_wp2_with fail
    refine HH.out.mono ?_
    rintro e w1 ⟨A1, c1, rfl, -, hB1⟩
    have b1 := HB0.out.later hB1
    have r0 := b1.cell 0 rfl
    have r1 := b1.cell 1 rfl
    have q0 := b1.fz 0 rfl
    have q1 := b1.fz 1 rfl
    have z := b1.set 0 (.slice none 0 0) (by simp)
    have z0 := z.cell 0 rfl
    have z1 := (z.set 1 (.slice none 0 0) (by simp)).cell 1 rfl
    have HB1 := Lib.hid (HAL.out.trans (hB1.mono HAL.out.size))
    clear b1 z hB1
    go_wp2
    refine bodyPost_ret (v := .tuple #[.agg #[.slice none 0 0, .slice none 0 0], .int .i64 (e0 : Nat)]) (by simp [results, Tryz.results42, go_sem, z0, z1]) rfl ?_
    rw [HR.out]
    exact ⟨none, 0, none, 0, rfl, TrOk.none _ _, (fun a e => by cases e), (HB1.out.setCell (Nat.le_refl _) _).setCell (Nat.le_refl _) _⟩
  subst hE
  have hple : p0 ≤ n := by rw [← hl, ← hp0]; exact (head_place (by decide) he0).2
  have hn9 : 9 ≤ n := by have := (head_place (by decide) he0).1; omega
  obtain ⟨R, hR⟩ : ∃ R, recsD zs ns.length (n + 1) p0 0 [] = R := ⟨_, rfl⟩
  have HR := Lib.hid (show recordsD zs = (⟨ns, R.1⟩, R.2) by unfold recordsD; rw [he0, if_neg (fun h => h rfl), hns, hp0, hl, hR])
  have HRR := Lib.hid hR
  obtain ⟨b, off, rfl, -⟩ := h.cell (by omega)
  have HNS := Lib.hid (show ∀ s ∈ ns, s.length ≤ maxLen from fun s hs => by rw [← hns] at hs; have := (head_names (by decide)).2 s hs; omega)
  have HD := Lib.hid h
  have HL := Lib.hid hl
  have HBY := Lib.hid (all_u8 h.all)
  clear FH b0 hal hns hp0 he0 h hl hR
  go_enter Tryz.func42, Tryz.ntmps42
  go_wp2_with fail
  refine HH.out.mono ?_
  rintro e w1 ⟨NA, nc, rfl, hown1, hB1⟩
  obtain ⟨-, hstr, hncc, hncm⟩ := strs_own hown1
  have HNA := Lib.hid (show ∀ a, NA = some a → w.heap.size < a.block from fun a e => by
    obtain ⟨A', c', e1, -, -, -, h5⟩ := own_slice hown1
    injection e1 with e1
    subst e1
    have := (h5 a e).1
    simp at this
    omega)
  have b1 := HB0.out.later hB1
  have hB2 := HAL.out.trans (hB1.mono HAL.out.size)
  have t1 := Blk.new w1 #[.slice NA ns.length nc, .slice none 0 0] 33 [.slice NA ns.length nc, .slice none 0 0] rfl
  have HB1 := Lib.hid b1
  have HB2 := Lib.hid hB2
  have HT1 := Lib.hid t1
  have HSTR := Lib.hid hstr
  have hlt1 : w.heap.size < w1.heap.size := b1.1
  clear b1 hB1 hB2 t1 hown1 hstr HH HB0 HAL
  go_wp2_with fail
  go_loopw [8, 11] (fun q lt wr => ∃ (p : Nat) (last : Int) (v : Value) (l : List SEv) (f : Nat), q = .int .i64 p ∧ lt = .int .u64 last ∧ p ≤ n ∧ n < p + f ∧ 14 * l.length ≤ p ∧ 0 ≤ last ∧ last ≤ 18446744073709551615 ∧ Blk wr w.heap.size [.slice none 0 0, .slice none 0 0] ∧
      Blk wr w1.heap.size [.slice NA ns.length nc, v] ∧ OwnEvs (fun b => w1.heap.size < b) wr (w1.heap.size + 1) v l ∧ Below w1.heap.size w1 wr ∧ Hid (recsD zs ns.length f p last (l.map (·.1)) = R)) (fun q _ _ => n + 1 - (intOf q).toNat)
  case atStart => exact ⟨p0, 0, _, [], n + 1, rfl, rfl, hple, by omega, by simp, by omega, by omega, HB1.out.alloc _, HT1.out, OwnEvs.nil _ _ _, (Below.refl _ _).alloc (Nat.le_refl _) _, HRR.out⟩
  case round =>
    obtain ⟨p, last, v, l, f, rfl, rfl, hp, hf, hl14, hl0, hl1, hK0, hK1, hrow, hBr, hN⟩ := hrel
    obtain ⟨f', rfl⟩ : ∃ f', f = f' + 1 := ⟨f - 1, by omega⟩
    obtain ⟨EA, ec, rfl, -, hec1, hec2⟩ := hrow.reads (fun b hb _ => hb)
    have hgr : w1.heap.size < wr.heap.size := hK1.1
    have hBw := HB2.out.trans (hBr.mono HB2.out.size)
    obtain ⟨A', hsl, hrd⟩ : ∃ A', (∀ W, (Instr.slice 28 (.slice (some ⟨b, off, none⟩) n c) (some (.int .i64 (p : Int))) none none).run Tryz.prog W = .ok (.slice A' (n - p) (c - p)) W) ∧ Rd .u8 wr A' (n - p) (zs.drop p) := by
      refine ⟨fromAddr (some ⟨b, off, none⟩) c p 1, fun W => slice_from 28 (by kernel_rfl) 1 (by kernel_rfl) _ n c p hp W, ?_⟩
      have hd := (HD.out.below hBw).drop hp
      unfold fromAddr
      split
      · have e : n - p = 0 := by omega
        rw [e] at hd ⊢
        rw [List.eq_nil_of_length_eq_zero hd.len]
        exact Rd.nil _ _ _
      · have e : (⟨b, off, none⟩ : Addr).add (p * 1) = ⟨b, off + p, none⟩ := by unfold Addr.add; split <;> simp_all
        show Rd .u8 wr (some ((⟨b, off, none⟩ : Addr).add (p * 1))) _ _
        rw [e]
        exact hd
    have FG := refGetR A' (n - p) (c - p) (zs.drop p) (ns.length : Int) wr (by omega) (by omega) hrd
    unfold GotGet at FG
    have hyb : ∀ z ∈ zs.drop p, 0 ≤ z ∧ z ≤ 255 := fun z hz => HBY.out z (List.mem_of_mem_drop hz)
    have hyt := ev_time hyb
    have HOK := Lib.hid (fun h => get_ok (b := zs.drop p) (p := (ns.length : Int)) h)
    have HYL := Lib.hid (show (zs.drop p).length = n - p by rw [List.length_drop, HL.out])
    obtain ⟨y, hy⟩ : ∃ y, zs.drop p = y := ⟨_, rfl⟩
    have HNE := Lib.hid (fun e h he => recsD_err (b := zs) (props := (ns.length : Int)) (last := last) (es := l.map (·.1)) (p := p) (e := e) f' h he)
    have HNT := Lib.hid (fun h h2 => recsD_time (b := zs) (props := (ns.length : Int)) (last := last) (es := l.map (·.1)) (p := p) f' h h2)
    have HNN := Lib.hid (fun h h2 => recsD_next (b := zs) (props := (ns.length : Int)) (last := last) (es := l.map (·.1)) (p := p) f' h h2)
    rw [hy] at FG hyt HOK HYL HNE HNT HNN
    obtain ⟨x, hx⟩ : ∃ x, getE y (ns.length : Int) = x := ⟨_, rfl⟩
    obtain ⟨q, hq⟩ : ∃ q, getN y (ns.length : Int) = q := ⟨_, rfl⟩
    obtain ⟨er, her⟩ : ∃ er, errR y (propsR (ns.length : Int)) = er := ⟨_, rfl⟩
    rw [hx, hq, her] at FG
    rw [her] at HOK HNE HNT HNN
    rw [hx, hq] at HOK
    have HG := Lib.hid FG
    have HK0 := Lib.hid hK0
    have HK1 := Lib.hid hK1
    have HROW := Lib.hid hrow
    have HBR := Lib.hid hBr
    have HBW := Lib.hid hBw
    clear FG hrd hyb hy hx hq her hK0 hK1 hrow hBr hBw
    go_wp2_with fail
    refine HG.out.mono ?_
    rintro e w3 ⟨K, ck, rfl, hk, hB3, hfar⟩
    have hal4 := (Below.refl _ w3).alloc (Nat.le_refl _) (.cells #[.int .u64 x.time, .slice K x.ids.length ck] 38)
    have hx4 := Blk.new w3 #[.int .u64 x.time, .slice K x.ids.length ck] 38 [.int .u64 x.time, .slice K x.ids.length ck] rfl
    have hs34 : (w3.alloc (.cells #[.int .u64 x.time, .slice K x.ids.length ck] 38)).heap.size = w3.heap.size + 1 := by simp
    have hB34 := hB3.trans (hal4.mono hB3.size)
    have hk4 := hk.below hal4
    obtain ⟨W4, hW4⟩ : ∃ W4, w3.alloc (.cells #[.int .u64 x.time, .slice K x.ids.length ck] 38) = W4 := ⟨_, rfl⟩
    rw [hW4] at hx4 hs34 hB34 hk4
    have HG0 := Lib.hid (HK0.out.later hB34)
    have HGT := Lib.hid (HK1.out.later hB34)
    have HX4 := Lib.hid hx4
    have HO4 := Lib.hid (HROW.out.below hB34)
    have HBR4 := Lib.hid (HBR.out.trans (hB34.mono HBR.out.size))
    have HB4 := Lib.hid (HBW.out.trans (hB34.mono HBW.out.size))
    have HS4 := Lib.hid (HSTR.out.below HBR4.out)
    have HKX := Lib.hid (show KidOk (fun b => w1.heap.size < b ∧ some b ≠ (Value.slice EA l.length ec).ownBlock) W4 (x, K, ck) from ⟨hk4, fun a e _ => by
      have h1 := hfar a e
      refine ⟨by omega, fun e2 => ?_⟩
      have := (HROW.out.1.lt a.block e2.symm).2
      omega⟩)
    have HW4S := Lib.hid hs34
    have HNE3 := Lib.hid (show some w3.heap.size ≠ (Value.slice EA l.length ec).ownBlock from fun e => by
      have := (HROW.out.1.lt _ e.symm).2
      have := hB3.size
      omega)
    have x0 := hx4.cell 0 rfl
    have x1 := hx4.cell 1 rfl
    have y0 := HGT.out.cell 0 rfl
    have y1 := HGT.out.cell 1 rfl
    have yf := HGT.out.fz 1 rfl
    have r0 := HG0.out.cell 0 rfl
    have r1 := HG0.out.cell 1 rfl
    have rf0 := HG0.out.fz 0 rfl
    have rf1 := HG0.out.fz 1 rfl
    clear hal4 hB34 hk4 hk hfar hB3 HK0 HK1 HROW HBR HBW hx4 hs34
    by_cases her0 : er = 0
    rotate_left
    · have hRv : (l.map (·.1), er) = R := by rw [← hN.out]; exact (HNE.out er rfl her0).symm
      have her1 : ((er : Int) == 0) = false := by simp; omega
      have z := HG0.out.set 0 (.slice NA ns.length nc) (by simp)
      have z0 := z.cell 0 rfl
      have z1 := (z.set 1 (.slice EA l.length ec) (by simp)).cell 1 rfl
      clear z
      go_wp2
      refine bodyPost_ret (v := .tuple #[.agg #[.slice NA ns.length nc, .slice EA l.length ec], .int .i64 (er : Nat)]) (by simp [results, Tryz.results42, go_sem, z0, z1]) rfl ?_
      rw [HR.out, ← hRv]
      refine ⟨NA, nc, EA, ec, by rw [List.length_map], ?_, (fun a e => Nat.le_of_lt (HNA.out a e)), (HB4.out.setCell (Nat.le_refl _) _).setCell (Nat.le_refl _) _⟩
      rw [List.length_map]
      exact recs_end HS4.out HNA.out HNS.out ⟨hncc, hncm⟩ HO4.out hlt1 _ _
    · subst her0
      obtain ⟨hxe, hqe, hq14, hqn⟩ := HOK.out rfl
      have hyl := HYL.out
      obtain ⟨t3, ht3⟩ : ∃ t3, x.time = t3 := ⟨_, rfl⟩
      have ht0 : 0 ≤ t3 ∧ t3 ≤ 18446744073709551615 := by rw [← ht3, hxe]; exact hyt
      obtain ⟨ht0, ht1⟩ := ht0
      obtain ⟨m3, hm3⟩ : ∃ m3, x.ids.length = m3 := ⟨_, rfl⟩
      have HM3 := Lib.hid hm3
      have HT3 := Lib.hid ht3
      rw [ht3] at x0 hW4
      rw [hm3] at x1 hW4
      rw [ht3, hm3]
      rw [← hxe] at HNT HNN
      rw [← hqe] at HNN
      rw [ht3] at HNT HNN
      have hq14' : 14 ≤ q := by omega
      have hqn' : q ≤ n - p := by omega
      clear hxe hqe hyt hq14 hqn
      by_cases hlt : t3 < last
      · have hRv : (l.map (·.1), 8) = R := by rw [← hN.out]; exact (HNT.out rfl hlt).symm
        have hlt' : decide (t3 < last) = true := decide_eq_true hlt
        clear hm3 ht3
        have z := HG0.out.set 0 (.slice NA ns.length nc) (by simp)
        have z0 := z.cell 0 rfl
        have z1 := (z.set 1 (.slice EA l.length ec) (by simp)).cell 1 rfl
        clear z
        go_wp2
        refine bodyPost_ret (v := .tuple #[.agg #[.slice NA ns.length nc, .slice EA l.length ec], .int .i64 8]) (by simp [results, Tryz.results42, go_sem, z0, z1]) rfl ?_
        rw [HR.out, ← hRv]
        refine ⟨NA, nc, EA, ec, by rw [List.length_map]; rfl, ?_, (fun a e => Nat.le_of_lt (HNA.out a e)), (HB4.out.setCell (Nat.le_refl _) _).setCell (Nat.le_refl _) _⟩
        rw [List.length_map]
        exact recs_end HS4.out HNA.out HNS.out ⟨hncc, hncm⟩ HO4.out hlt1 _ _
      · have HNX := Lib.hid (show recsD zs ns.length f' (p + q) t3 ((l ++ [(x, K, ck)]).map (·.1)) = R by
          rw [← hN.out, HNN.out rfl (by omega), List.map_append]
          rfl)
        have hlt' : decide (t3 < last) = false := decide_eq_false hlt
        have hsz4 : w1.heap.size + 1 ≤ W4.heap.size := HGT.out.1
        have hne : ∀ g, g < w1.heap.size + 1 → some g ≠ (Value.slice EA l.length ec).ownBlock := fun g hg e => by
          have := (HO4.out.1.lt g e.symm).1
          omega
        have HNEB := Lib.hid hne
        have hl4 : l.length ≤ 4194304 := by omega
        clear hm3 ht3 hne
        go_wp2_with (at_builtin; refine wpList_append_nd rfl (.tmp 70) (.tmp 72) 31 rfl (w1.heap.size + 1) i0 _ Tryz.underlying31 hi hz0 hz1 hz2 rfl (.slice EA l.length ec) l (by rfl) (fun b => w1.heap.size < b) HO4.out (x, K, ck) HKX.out _ _ (by rw [← HT3.out, ← HM3.out]; rfl) W4.heap.size rfl (by rfl) hl4 hsz4 ?_; intro v6 w6 hown6 hgr6 hat6; obtain ⟨EA6, ec6, rfl, -, hec61, hec62⟩ := hown6.reads (fun b hb _ => hb); have hGT6 := (HGT.out.alloc _).grown hgr6 (HNEB.out _ (by omega)); have y61 := hGT6.cell 1 rfl; have y6f := hGT6.fz 1 rfl; have hX6 := (HX4.out.alloc _).grown hgr6 HNE3.out; have x60 := hX6.cell 0 rfl; have x61 := hX6.cell 1 rfl)
        go_roundw
        case rel =>
          have hB0 := (((HG0.out.alloc (.cells #[.int .u64 t3, .slice K m3 ck] 38)).grown hgr6 (HNEB.out _ (by omega))).other ⟨w1.heap.size, 1, none⟩ (.slice EA6 (l.length + 1) ec6) (by show w.heap.size ≠ w1.heap.size; omega))
          have hBL := (((HBR4.out.alloc HBR4.out.size (.cells #[.int .u64 t3, .slice K m3 ck] 38)).grown hgr6 (le_alloc HBR4.out.size) (fun z hz => by have := (HO4.out.1.lt z hz).1; omega)).setCell (p := ⟨w1.heap.size, 1, none⟩) (Nat.le_refl _) (.slice EA6 (l.length + 1) ec6))
          have hOE := hown6.keep (grown_set w6 ⟨w1.heap.size, 1, none⟩ (.slice EA6 (l.length + 1) ec6)) (Or.inr (fun e => by
            have h7 : w1.heap.size + 1 ≤ w1.heap.size := (hown6.1.lt _ e).1
            omega)) (fun b hb e => by injection e with e; subst e; exact Nat.lt_irrefl _ hb)
          have e6 : (l ++ [(x, K, ck)]).length = l.length + 1 := by rw [List.length_append]; rfl
          rw [e6] at hOE
          have hT := hGT6.set 1 (.slice EA6 (l.length + 1) ec6) (by simp)
          have a1 : p + q ≤ n := by omega
          have a2 : n < p + q + f' := by omega
          have a3 : 14 * (l ++ [(x, K, ck)]).length ≤ p + q := by rw [e6]; omega
          have a4 : (p : Int) + (q : Int) = ((p + q : Nat) : Int) := by omega
          exact ⟨p + q, t3, .slice EA6 (l.length + 1) ec6, l ++ [(x, K, ck)], f', by rw [a4], by rw [HT3.out], a1, a2, a3, ht0, ht1, hB0, hT, hOE, hBL, HNX.out⟩
        case measure =>
          simp only [intOf]
          have a5 : ((p : Int) + (q : Int)).toNat = p + q := by omega
          rw [a5, Int.toNat_natCast]
          omega
set_option maxHeartbeats 16000000 in
set_option maxRecDepth 100000 in
theorem refRecordsC (A : Option Addr) (n0 n c : Nat) (zs0 zs : List Int) (w : World) (hnc0 : n0 ≤ c) (hc : c ≤ maxLen) (hn : n ≤ 58000000) (h0 : Rd .u8 w A n0 zs0) (hn0 : n < n0) (hzs : zs0.take n = zs) :
    Calls Tryz.prog 42 #[.slice A n0 c, .int .i64 (n : Nat)] w (GotRecs w (recordsC zs).1 (recordsC zs).2) := by
  have q63 : maxLen = 9223372036854775807 := rfl
  have h : Rd .u8 w A n zs := by rw [← hzs]; exact h0.take (Nat.le_of_lt hn0)
  have hnc : n ≤ c := by omega
  have hfc : (n : Int) < (n0 : Int) := by omega
  have hfd : (n : Int) ≤ (c : Int) := by omega
  have hslu := slice_upto (P := Tryz.prog) 28 (by kernel_rfl) 1 (by kernel_rfl) A n0 c n hnc
  clear h0 hzs
  obtain ⟨i0, hi, hz0, hz1, hz2⟩ := info_parts infoEvent
  have hl := h.len
  have b0 := Blk.new w #[.slice none 0 0, .slice none 0 0] 33 [.slice none 0 0, .slice none 0 0] rfl
  have hal := (Below.refl _ w).alloc (Nat.le_refl _) (.cells #[.slice none 0 0, .slice none 0 0] 33)
  have FH := refHead1 A n c zs (w.alloc (.cells #[.slice none 0 0, .slice none 0 0] 33)) hnc hc (h.alloc _)
  unfold GotHead at FH
  obtain ⟨ns, hns⟩ : ∃ ns, (headD zs 10).1 = ns := ⟨_, rfl⟩
  obtain ⟨p0, hp0⟩ : ∃ p0, (headD zs 10).2.1 = p0 := ⟨_, rfl⟩
  obtain ⟨e0, he0⟩ : ∃ e0, (headD zs 10).2.2 = e0 := ⟨_, rfl⟩
  rw [hns, hp0, he0] at FH
  have HH := Lib.hid FH
  have HB0 := Lib.hid b0
  have HAL := Lib.hid hal
  have hns64 : ns.length ≤ 64 := by rw [← hns]; exact (head_names (by decide)).1
  by_cases hE : e0 = 0
  rotate_left
  · have HR := Lib.hid (show recordsC zs = (noTr, e0) by unfold recordsC; rw [he0, if_pos hE])
    have he1 : ((e0 : Int) == 0) = false := by simp; omega
    clear FH b0 hal hns hp0 he0 h hl
    go_enter Tryz.func42, Tryz.ntmps42
    go_wp2_with fail
    refine HH.out.mono ?_
    rintro e w1 ⟨A1, c1, rfl, -, hB1⟩
    have b1 := HB0.out.later hB1
    have r0 := b1.cell 0 rfl
    have r1 := b1.cell 1 rfl
    have q0 := b1.fz 0 rfl
    have q1 := b1.fz 1 rfl
    have z := b1.set 0 (.slice none 0 0) (by simp)
    have z0 := z.cell 0 rfl
    have z1 := (z.set 1 (.slice none 0 0) (by simp)).cell 1 rfl
    have HB1 := Lib.hid (HAL.out.trans (hB1.mono HAL.out.size))
    clear b1 z hB1
    go_wp2
    refine bodyPost_ret (v := .tuple #[.agg #[.slice none 0 0, .slice none 0 0], .int .i64 (e0 : Nat)]) (by simp [results, Tryz.results42, go_sem, z0, z1]) rfl ?_
    rw [HR.out]
    exact ⟨none, 0, none, 0, rfl, TrOk.none _ _, (fun a e => by cases e), (HB1.out.setCell (Nat.le_refl _) _).setCell (Nat.le_refl _) _⟩
  subst hE
  have hple : p0 ≤ n := by rw [← hl, ← hp0]; exact (head_place (by decide) he0).2
  have hn9 : 9 ≤ n := by have := (head_place (by decide) he0).1; omega
  obtain ⟨R, hR⟩ : ∃ R, recsD zs ns.length (n + 1) p0 0 [] = R := ⟨_, rfl⟩
  have HR := Lib.hid (show recordsC zs = (⟨ns, R.1⟩, mapE R.2) by unfold recordsC; rw [he0, if_neg (fun h => h rfl), hns, hp0, hl, hR])
  have HRR := Lib.hid hR
  obtain ⟨b, off, rfl, -⟩ := h.cell (by omega)
  have HNS := Lib.hid (show ∀ s ∈ ns, s.length ≤ maxLen from fun s hs => by rw [← hns] at hs; have := (head_names (by decide)).2 s hs; omega)
  have HD := Lib.hid h
  have HL := Lib.hid hl
  have HBY := Lib.hid (all_u8 h.all)
  clear FH b0 hal hns hp0 he0 h hl hR
  go_enter Tryz.func42, Tryz.ntmps42
  go_wp2_with fail
  refine HH.out.mono ?_
  rintro e w1 ⟨NA, nc, rfl, hown1, hB1⟩
  obtain ⟨-, hstr, hncc, hncm⟩ := strs_own hown1
  have HNA := Lib.hid (show ∀ a, NA = some a → w.heap.size < a.block from fun a e => by
    obtain ⟨A', c', e1, -, -, -, h5⟩ := own_slice hown1
    injection e1 with e1
    subst e1
    have := (h5 a e).1
    simp at this
    omega)
  have b1 := HB0.out.later hB1
  have hB2 := HAL.out.trans (hB1.mono HAL.out.size)
  have t1 := Blk.new w1 #[.slice NA ns.length nc, .slice none 0 0] 33 [.slice NA ns.length nc, .slice none 0 0] rfl
  have HB1 := Lib.hid b1
  have HB2 := Lib.hid hB2
  have HT1 := Lib.hid t1
  have HSTR := Lib.hid hstr
  have hlt1 : w.heap.size < w1.heap.size := b1.1
  clear b1 hB1 hB2 t1 hown1 hstr HH HB0 HAL
  go_wp2_with fail
  go_loopw [8, 11] (fun q lt wr => ∃ (p : Nat) (last : Int) (v : Value) (l : List SEv) (f : Nat), q = .int .i64 p ∧ lt = .int .u64 last ∧ p ≤ n ∧ n < p + f ∧ 14 * l.length ≤ p ∧ 0 ≤ last ∧ last ≤ 18446744073709551615 ∧ Blk wr w.heap.size [.slice none 0 0, .slice none 0 0] ∧
      Blk wr w1.heap.size [.slice NA ns.length nc, v] ∧ OwnEvs (fun b => w1.heap.size < b) wr (w1.heap.size + 1) v l ∧ Below w1.heap.size w1 wr ∧ Hid (recsD zs ns.length f p last (l.map (·.1)) = R)) (fun q _ _ => n + 1 - (intOf q).toNat)
  case atStart => exact ⟨p0, 0, _, [], n + 1, rfl, rfl, hple, by omega, by simp, by omega, by omega, HB1.out.alloc _, HT1.out, OwnEvs.nil _ _ _, (Below.refl _ _).alloc (Nat.le_refl _) _, HRR.out⟩
  case round =>
    obtain ⟨p, last, v, l, f, rfl, rfl, hp, hf, hl14, hl0, hl1, hK0, hK1, hrow, hBr, hN⟩ := hrel
    obtain ⟨f', rfl⟩ : ∃ f', f = f' + 1 := ⟨f - 1, by omega⟩
    obtain ⟨EA, ec, rfl, -, hec1, hec2⟩ := hrow.reads (fun b hb _ => hb)
    have hgr : w1.heap.size < wr.heap.size := hK1.1
    have hBw := HB2.out.trans (hBr.mono HB2.out.size)
    obtain ⟨A', hsl, hrd⟩ : ∃ A', (∀ W, (Instr.slice 28 (.slice (some ⟨b, off, none⟩) n c) (some (.int .i64 (p : Int))) none none).run Tryz.prog W = .ok (.slice A' (n - p) (c - p)) W) ∧ Rd .u8 wr A' (n - p) (zs.drop p) := by
      refine ⟨fromAddr (some ⟨b, off, none⟩) c p 1, fun W => slice_from 28 (by kernel_rfl) 1 (by kernel_rfl) _ n c p hp W, ?_⟩
      have hd := (HD.out.below hBw).drop hp
      unfold fromAddr
      split
      · have e : n - p = 0 := by omega
        rw [e] at hd ⊢
        rw [List.eq_nil_of_length_eq_zero hd.len]
        exact Rd.nil _ _ _
      · have e : (⟨b, off, none⟩ : Addr).add (p * 1) = ⟨b, off + p, none⟩ := by unfold Addr.add; split <;> simp_all
        show Rd .u8 wr (some ((⟨b, off, none⟩ : Addr).add (p * 1))) _ _
        rw [e]
        exact hd
    have FG := refGetR A' (n - p) (c - p) (zs.drop p) (ns.length : Int) wr (by omega) (by omega) hrd
    unfold GotGet at FG
    have hyb : ∀ z ∈ zs.drop p, 0 ≤ z ∧ z ≤ 255 := fun z hz => HBY.out z (List.mem_of_mem_drop hz)
    have hyt := ev_time hyb
    have HOK := Lib.hid (fun h => get_ok (b := zs.drop p) (p := (ns.length : Int)) h)
    have HYL := Lib.hid (show (zs.drop p).length = n - p by rw [List.length_drop, HL.out])
    obtain ⟨y, hy⟩ : ∃ y, zs.drop p = y := ⟨_, rfl⟩
    have HNE := Lib.hid (fun e h he => recsD_err (b := zs) (props := (ns.length : Int)) (last := last) (es := l.map (·.1)) (p := p) (e := e) f' h he)
    have HNT := Lib.hid (fun h h2 => recsD_time (b := zs) (props := (ns.length : Int)) (last := last) (es := l.map (·.1)) (p := p) f' h h2)
    have HNN := Lib.hid (fun h h2 => recsD_next (b := zs) (props := (ns.length : Int)) (last := last) (es := l.map (·.1)) (p := p) f' h h2)
    rw [hy] at FG hyt HOK HYL HNE HNT HNN
    obtain ⟨x, hx⟩ : ∃ x, getE y (ns.length : Int) = x := ⟨_, rfl⟩
    obtain ⟨q, hq⟩ : ∃ q, getN y (ns.length : Int) = q := ⟨_, rfl⟩
    obtain ⟨er, her⟩ : ∃ er, errR y (propsR (ns.length : Int)) = er := ⟨_, rfl⟩
    rw [hx, hq, her] at FG
    rw [her] at HOK HNE HNT HNN
    rw [hx, hq] at HOK
    have HG := Lib.hid FG
    have HK0 := Lib.hid hK0
    have HK1 := Lib.hid hK1
    have HROW := Lib.hid hrow
    have HBR := Lib.hid hBr
    have HBW := Lib.hid hBw
    clear FG hrd hyb hy hx hq her hK0 hK1 hrow hBr hBw
    go_wp2_with fail
    refine HG.out.mono ?_
    rintro e w3 ⟨K, ck, rfl, hk, hB3, hfar⟩
    have hal4 := (Below.refl _ w3).alloc (Nat.le_refl _) (.cells #[.int .u64 x.time, .slice K x.ids.length ck] 38)
    have hx4 := Blk.new w3 #[.int .u64 x.time, .slice K x.ids.length ck] 38 [.int .u64 x.time, .slice K x.ids.length ck] rfl
    have hs34 : (w3.alloc (.cells #[.int .u64 x.time, .slice K x.ids.length ck] 38)).heap.size = w3.heap.size + 1 := by simp
    have hB34 := hB3.trans (hal4.mono hB3.size)
    have hk4 := hk.below hal4
    obtain ⟨W4, hW4⟩ : ∃ W4, w3.alloc (.cells #[.int .u64 x.time, .slice K x.ids.length ck] 38) = W4 := ⟨_, rfl⟩
    rw [hW4] at hx4 hs34 hB34 hk4
    have HG0 := Lib.hid (HK0.out.later hB34)
    have HGT := Lib.hid (HK1.out.later hB34)
    have HX4 := Lib.hid hx4
    have HO4 := Lib.hid (HROW.out.below hB34)
    have HBR4 := Lib.hid (HBR.out.trans (hB34.mono HBR.out.size))
    have HB4 := Lib.hid (HBW.out.trans (hB34.mono HBW.out.size))
    have HS4 := Lib.hid (HSTR.out.below HBR4.out)
    have HKX := Lib.hid (show KidOk (fun b => w1.heap.size < b ∧ some b ≠ (Value.slice EA l.length ec).ownBlock) W4 (x, K, ck) from ⟨hk4, fun a e _ => by
      have h1 := hfar a e
      refine ⟨by omega, fun e2 => ?_⟩
      have := (HROW.out.1.lt a.block e2.symm).2
      omega⟩)
    have HW4S := Lib.hid hs34
    have HNE3 := Lib.hid (show some w3.heap.size ≠ (Value.slice EA l.length ec).ownBlock from fun e => by
      have := (HROW.out.1.lt _ e.symm).2
      have := hB3.size
      omega)
    have x0 := hx4.cell 0 rfl
    have x1 := hx4.cell 1 rfl
    have y0 := HGT.out.cell 0 rfl
    have y1 := HGT.out.cell 1 rfl
    have yf := HGT.out.fz 1 rfl
    have r0 := HG0.out.cell 0 rfl
    have r1 := HG0.out.cell 1 rfl
    have rf0 := HG0.out.fz 0 rfl
    have rf1 := HG0.out.fz 1 rfl
    clear hal4 hB34 hk4 hk hfar hB3 HK0 HK1 HROW HBR HBW hx4 hs34
    by_cases her0 : er = 0
    rotate_left
    · have hRv : (l.map (·.1), er) = R := by rw [← hN.out]; exact (HNE.out er rfl her0).symm
      by_cases h13 : er = 13
      · subst h13
        have z := HG0.out.set 0 (.slice NA ns.length nc) (by simp)
        have z0 := z.cell 0 rfl
        have z1 := (z.set 1 (.slice EA l.length ec) (by simp)).cell 1 rfl
        clear z
        go_wp2
        refine bodyPost_ret (v := .tuple #[.agg #[.slice NA ns.length nc, .slice EA l.length ec], .int .i64 10]) (by simp [results, Tryz.results42, go_sem, z0, z1]) rfl ?_
        rw [HR.out, ← hRv, show mapE 13 = 10 from rfl]
        refine ⟨NA, nc, EA, ec, by rw [List.length_map]; rfl, ?_, (fun a e => Nat.le_of_lt (HNA.out a e)), (HB4.out.setCell (Nat.le_refl _) _).setCell (Nat.le_refl _) _⟩
        rw [List.length_map]
        exact recs_end HS4.out HNA.out HNS.out ⟨hncc, hncm⟩ HO4.out hlt1 _ _
      by_cases h7 : er = 7
      · subst h7
        have z := HG0.out.set 0 (.slice NA ns.length nc) (by simp)
        have z0 := z.cell 0 rfl
        have z1 := (z.set 1 (.slice EA l.length ec) (by simp)).cell 1 rfl
        clear z
        go_wp2
        refine bodyPost_ret (v := .tuple #[.agg #[.slice NA ns.length nc, .slice EA l.length ec], .int .i64 10]) (by simp [results, Tryz.results42, go_sem, z0, z1]) rfl ?_
        rw [HR.out, ← hRv, show mapE 7 = 10 from rfl]
        refine ⟨NA, nc, EA, ec, by rw [List.length_map]; rfl, ?_, (fun a e => Nat.le_of_lt (HNA.out a e)), (HB4.out.setCell (Nat.le_refl _) _).setCell (Nat.le_refl _) _⟩
        rw [List.length_map]
        exact recs_end HS4.out HNA.out HNS.out ⟨hncc, hncm⟩ HO4.out hlt1 _ _
      have her1 : ((er : Int) == 0) = false := by simp; omega
      have her2 : ((er : Int) == 13) = false := by simp; omega
      have her3 : ((er : Int) == 7) = false := by simp; omega
      have z := HG0.out.set 0 (.slice NA ns.length nc) (by simp)
      have z0 := z.cell 0 rfl
      have z1 := (z.set 1 (.slice EA l.length ec) (by simp)).cell 1 rfl
      clear z
      go_wp2
      refine bodyPost_ret (v := .tuple #[.agg #[.slice NA ns.length nc, .slice EA l.length ec], .int .i64 (er : Nat)]) (by simp [results, Tryz.results42, go_sem, z0, z1]) rfl ?_
      rw [HR.out, ← hRv, show mapE er = er from by unfold mapE; rw [if_neg (fun h => h.elim h13 h7)]]
      refine ⟨NA, nc, EA, ec, by rw [List.length_map], ?_, (fun a e => Nat.le_of_lt (HNA.out a e)), (HB4.out.setCell (Nat.le_refl _) _).setCell (Nat.le_refl _) _⟩
      rw [List.length_map]
      exact recs_end HS4.out HNA.out HNS.out ⟨hncc, hncm⟩ HO4.out hlt1 _ _
    · subst her0
      obtain ⟨hxe, hqe, hq14, hqn⟩ := HOK.out rfl
      have hyl := HYL.out
      obtain ⟨t3, ht3⟩ : ∃ t3, x.time = t3 := ⟨_, rfl⟩
      have ht0 : 0 ≤ t3 ∧ t3 ≤ 18446744073709551615 := by rw [← ht3, hxe]; exact hyt
      obtain ⟨ht0, ht1⟩ := ht0
      obtain ⟨m3, hm3⟩ : ∃ m3, x.ids.length = m3 := ⟨_, rfl⟩
      have HM3 := Lib.hid hm3
      have HT3 := Lib.hid ht3
      rw [ht3] at x0 hW4
      rw [hm3] at x1 hW4
      rw [ht3, hm3]
      rw [← hxe] at HNT HNN
      rw [← hqe] at HNN
      rw [ht3] at HNT HNN
      have hq14' : 14 ≤ q := by omega
      have hqn' : q ≤ n - p := by omega
      clear hxe hqe hyt hq14 hqn
      by_cases hlt : t3 < last
      · have hRv : (l.map (·.1), 8) = R := by rw [← hN.out]; exact (HNT.out rfl hlt).symm
        have hlt' : decide (t3 < last) = true := decide_eq_true hlt
        clear hm3 ht3
        have z := HG0.out.set 0 (.slice NA ns.length nc) (by simp)
        have z0 := z.cell 0 rfl
        have z1 := (z.set 1 (.slice EA l.length ec) (by simp)).cell 1 rfl
        clear z
        go_wp2
        refine bodyPost_ret (v := .tuple #[.agg #[.slice NA ns.length nc, .slice EA l.length ec], .int .i64 8]) (by simp [results, Tryz.results42, go_sem, z0, z1]) rfl ?_
        rw [HR.out, ← hRv, show mapE 8 = 8 from rfl]
        refine ⟨NA, nc, EA, ec, by rw [List.length_map]; rfl, ?_, (fun a e => Nat.le_of_lt (HNA.out a e)), (HB4.out.setCell (Nat.le_refl _) _).setCell (Nat.le_refl _) _⟩
        rw [List.length_map]
        exact recs_end HS4.out HNA.out HNS.out ⟨hncc, hncm⟩ HO4.out hlt1 _ _
      · have HNX := Lib.hid (show recsD zs ns.length f' (p + q) t3 ((l ++ [(x, K, ck)]).map (·.1)) = R by
          rw [← hN.out, HNN.out rfl (by omega), List.map_append]
          rfl)
        have hlt' : decide (t3 < last) = false := decide_eq_false hlt
        have hsz4 : w1.heap.size + 1 ≤ W4.heap.size := HGT.out.1
        have hne : ∀ g, g < w1.heap.size + 1 → some g ≠ (Value.slice EA l.length ec).ownBlock := fun g hg e => by
          have := (HO4.out.1.lt g e.symm).1
          omega
        have HNEB := Lib.hid hne
        have hl4 : l.length ≤ 4194304 := by omega
        clear hm3 ht3 hne
        go_wp2_with (at_builtin; refine wpList_append_nd rfl (.tmp 70) (.tmp 72) 31 rfl (w1.heap.size + 1) i0 _ Tryz.underlying31 hi hz0 hz1 hz2 rfl (.slice EA l.length ec) l (by rfl) (fun b => w1.heap.size < b) HO4.out (x, K, ck) HKX.out _ _ (by rw [← HT3.out, ← HM3.out]; rfl) W4.heap.size rfl (by rfl) hl4 hsz4 ?_; intro v6 w6 hown6 hgr6 hat6; obtain ⟨EA6, ec6, rfl, -, hec61, hec62⟩ := hown6.reads (fun b hb _ => hb); have hGT6 := (HGT.out.alloc _).grown hgr6 (HNEB.out _ (by omega)); have y61 := hGT6.cell 1 rfl; have y6f := hGT6.fz 1 rfl; have hX6 := (HX4.out.alloc _).grown hgr6 HNE3.out; have x60 := hX6.cell 0 rfl; have x61 := hX6.cell 1 rfl)
        go_roundw
        case rel =>
          have hB0 := (((HG0.out.alloc (.cells #[.int .u64 t3, .slice K m3 ck] 38)).grown hgr6 (HNEB.out _ (by omega))).other ⟨w1.heap.size, 1, none⟩ (.slice EA6 (l.length + 1) ec6) (by show w.heap.size ≠ w1.heap.size; omega))
          have hBL := (((HBR4.out.alloc HBR4.out.size (.cells #[.int .u64 t3, .slice K m3 ck] 38)).grown hgr6 (le_alloc HBR4.out.size) (fun z hz => by have := (HO4.out.1.lt z hz).1; omega)).setCell (p := ⟨w1.heap.size, 1, none⟩) (Nat.le_refl _) (.slice EA6 (l.length + 1) ec6))
          have hOE := hown6.keep (grown_set w6 ⟨w1.heap.size, 1, none⟩ (.slice EA6 (l.length + 1) ec6)) (Or.inr (fun e => by
            have h7 : w1.heap.size + 1 ≤ w1.heap.size := (hown6.1.lt _ e).1
            omega)) (fun b hb e => by injection e with e; subst e; exact Nat.lt_irrefl _ hb)
          have e6 : (l ++ [(x, K, ck)]).length = l.length + 1 := by rw [List.length_append]; rfl
          rw [e6] at hOE
          have hT := hGT6.set 1 (.slice EA6 (l.length + 1) ec6) (by simp)
          have a1 : p + q ≤ n := by omega
          have a2 : n < p + q + f' := by omega
          have a3 : 14 * (l ++ [(x, K, ck)]).length ≤ p + q := by rw [e6]; omega
          have a4 : (p : Int) + (q : Int) = ((p + q : Nat) : Int) := by omega
          exact ⟨p + q, t3, .slice EA6 (l.length + 1) ec6, l ++ [(x, K, ck)], f', by rw [a4], by rw [HT3.out], a1, a2, a3, ht0, ht1, hB0, hT, hOE, hBL, HNX.out⟩
        case measure =>
          simp only [intOf]
          have a5 : ((p : Int) + (q : Int)).toNat = p + q := by omega
          rw [a5, Int.toNat_natCast]
          omega

/-- What can be read of a log's bytes, up to a place. -/
def recordsF (b : List Int) (f : Nat) : Tr × Nat := if f < b.length then recordsC (b.take f) else recordsD b
theorem refRecordsF (A : Option Addr) (n c : Nat) (zs : List Int) (w : World) (hnc : n ≤ c) (hc : c ≤ maxLen) (hn : n ≤ 58000000) (h : Rd .u8 w A n zs) (fault : Int) :
    Calls Tryz.prog 42 #[.slice A n c, .int .i64 fault] w (GotRecs w (recordsF zs (Src.faultP n fault)).1 (recordsF zs (Src.faultP n fault)).2) := by
  have hl := h.len
  by_cases h1 : fault < 0
  · have e : recordsF zs (Src.faultP n fault) = recordsD zs := by have hf : Src.faultP n fault = n := by { unfold Src.faultP; rw [if_pos (.inl h1)] }; unfold recordsF; rw [hf, if_neg (by omega)]
    rw [e]
    exact refRecordsN A n c zs w hnc hc hn h fault h1
  · by_cases h2 : (n : Int) ≤ fault
    · have e : recordsF zs (Src.faultP n fault) = recordsD zs := by have hf : Src.faultP n fault = n := by { unfold Src.faultP; split <;> omega }; unfold recordsF; rw [hf, if_neg (by omega)]
      rw [e]
      exact refRecordsP A n c zs w hnc hc hn h fault h2
    · obtain ⟨f, rfl⟩ : ∃ f : Nat, fault = (f : Int) := ⟨fault.toNat, by omega⟩
      have e : recordsF zs (Src.faultP n (f : Int)) = recordsC (zs.take f) := by have hf : Src.faultP n (f : Int) = f := by { unfold Src.faultP; split <;> omega }; unfold recordsF; rw [hf, if_pos (by omega)]
      rw [e]
      exact refRecordsC A n f c zs _ w hnc hc (by omega) h (by omega) rfl
end Go.Proofs.YtimbbfneaaglbaaGreat.Log
