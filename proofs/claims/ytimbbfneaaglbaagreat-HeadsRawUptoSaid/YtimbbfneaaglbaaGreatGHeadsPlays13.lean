/-
  The walk of the landed size. By an AI agent.
  The walk of the landed Get. By an AI agent.
  What a record at a place of a source is, as plain lists (stage 12). By an AI agent.
-/
import Derived.Test.YtimbbfneaaglbaaGreatGHeadsPlays11
import Derived.Test.YtimbbfneaaglbaaGreatGHeadsPlays12
import Derived.Test.YtimbbfneaaglbaaGreatGHeadsPlays6
import Derived.Test.YtimbbfneaaglbaaGreatGHeadsPlays7
namespace Go.Proofs.YtimbbfneaaglbaaGreat.Record
open Go.RowKit Go.Proofs.YtimbbfneaaglbaaGreat.Ints Go.Proofs.YtimbbfneaaglbaaGreat.Mem Go.Proofs.YtimbbfneaaglbaaGreat.SumMath Go.Proofs.YtimbbfneaaglbaaGreat.SumWalks Go.Proofs.YtimbbfneaaglbaaGreat.Trace

/-- What size answers. -/
def sizeN (b : List Int) (p : Int) : Nat := if sizeE b p = 0 then lenR b + 6 else 0
theorem len_bd {zs : List Int} (h : ∀ z ∈ zs, 0 ≤ z ∧ z ≤ 255) : 0 ≤ numR (zs.take 2) ∧ numR (zs.take 2) ≤ 65535 := by
  have := num_bd 2 (zs.take 2) (by rw [List.length_take]; omega) (fun z hz => h z (List.mem_of_mem_take hz))
  have e : (256 : Nat) ^ 2 = 65536 := by decide
  omega

set_option maxHeartbeats 4000000 in
set_option maxRecDepth 100000 in
theorem landSize (A : Option Addr) (n c : Nat) (zs : List Int) (p : Int) (w : World) (hnc : n ≤ c) (hc : c ≤ maxLen) (h : Rd .u8 w A n zs) (hp : 0 ≤ p ∧ p ≤ 64) :
    Calls Tryz.prog 113 #[.slice A n c, .int .i64 p] w fun e w' => e = .returned (.tuple #[.int .i64 (sizeN zs p : Nat), .int .i64 (sizeE zs p : Nat)]) ∧ w' = w := by
  have q63 : maxLen = 9223372036854775807 := rfl
  have hl := h.len
  obtain ⟨hp0, hp1⟩ := hp
  by_cases h0 : n = 0
  · have e1 : sizeE zs p = 13 := by unfold sizeE; rw [if_pos (by omega)]
    have e2 : sizeN zs p = 0 := by unfold sizeN; rw [e1]; rfl
    rw [e1, e2]
    subst h0
    clear h hl e1 e2
    go_enter Tryz.func113, Tryz.ntmps113
    go_wp2
    go_ret2
    exact ⟨rfl, rfl⟩
  by_cases h1 : n = 1
  · have e1 : sizeE zs p = 7 := by unfold sizeE; rw [if_neg (by omega), if_pos (by omega)]
    have e2 : sizeN zs p = 0 := by unfold sizeN; rw [e1]; rfl
    rw [e1, e2]
    subst h1
    clear h hl e1 e2
    go_enter Tryz.func113, Tryz.ntmps113
    go_wp2
    go_ret2
    exact ⟨rfl, rfl⟩
  obtain ⟨b, off, rfl, -⟩ := h.cell (by omega)
  have hL := len_bd (all_u8 h.all)
  have FN := Lib.hid (landNumber (some ⟨b, off, none⟩) 2 c (zs.take 2) w (by omega) (h.take (m := 2) (by omega)))
  have hlr : (lenR zs : Int) = numR (zs.take 2) := by unfold lenR; omega
  obtain ⟨L, hLL⟩ : ∃ L, numR (zs.take 2) = L := ⟨_, rfl⟩
  rw [hLL] at hL hlr FN
  have hs : sizeE zs p = if (L < 8 ∨ L > 8 + p) then 2 else if n < lenR zs + 6 then 7 else 0 := by
    unfold sizeE
    rw [if_neg (by omega), if_neg (by omega), hlr, hl]
  obtain ⟨hL0, hL1⟩ := hL
  obtain ⟨m, hm⟩ : ∃ m, lenR zs = m := ⟨_, rfl⟩
  have hLm : L = (m : Int) := by omega
  have hn0 : ((n : Int) == 0) = false := by simp; omega
  have hn1 : ¬ ((n : Int) < 2) := by omega
  have hc2 : (2 : Int) ≤ (c : Int) := by omega
  have hc3 : (n : Int) ≤ 9223372036854775807 := by omega
  rw [hm] at hs
  by_cases h2 : L < 8
  · have e1 : sizeE zs p = 2 := by rw [hs, if_pos (Or.inl h2)]
    have e2 : sizeN zs p = 0 := by unfold sizeN; rw [e1]; rfl
    rw [e1, e2]
    have h2' : decide (L < 8) = true := decide_eq_true h2
    clear h hl e1 e2 hs hlr hLL hm hLm
    go_enter Tryz.func113, Tryz.ntmps113
    go_wp2_with (go_at_call 117; refine FN.out.mono ?_; rintro e w' ⟨rfl, rfl⟩)
    go_ret2
    exact ⟨rfl, rfl⟩
  have h2' : decide (L < 8) = false := decide_eq_false h2
  by_cases h3 : L > 8 + p
  · have e1 : sizeE zs p = 2 := by rw [hs, if_pos (Or.inr h3)]
    have e2 : sizeN zs p = 0 := by unfold sizeN; rw [e1]; rfl
    rw [e1, e2]
    have h3' : decide (L > 8 + p) = true := decide_eq_true h3
    clear h hl e1 e2 hs hlr hLL hm hLm
    go_enter Tryz.func113, Tryz.ntmps113
    go_wp2_with (go_at_call 117; refine FN.out.mono ?_; rintro e w' ⟨rfl, rfl⟩)
    go_ret2
    exact ⟨rfl, rfl⟩
  have h3' : decide (L > 8 + p) = false := decide_eq_false h3
  by_cases h4 : n < m + 6
  · have e1 : sizeE zs p = 7 := by rw [hs, if_neg (by omega), if_pos h4]
    have e2 : sizeN zs p = 0 := by unfold sizeN; rw [e1]; rfl
    rw [e1, e2]
    have h4' : (n : Int) < L + 6 := by omega
    have h4'' : (n : Int) < 2 + L + 4 := by omega
    clear h hl e1 e2 hs hlr hLL hm hLm
    go_enter Tryz.func113, Tryz.ntmps113
    go_wp2_with (go_at_call 117; refine FN.out.mono ?_; rintro e w' ⟨rfl, rfl⟩)
    go_ret2
    exact ⟨rfl, rfl⟩
  · have e1 : sizeE zs p = 0 := by rw [hs, if_neg (by omega), if_neg h4]
    have e2 : sizeN zs p = m + 6 := by unfold sizeN; rw [e1, hm]; rfl
    rw [e1, e2]
    have h4' : ¬ ((n : Int) < 2 + L + 4) := by omega
    have HE := Lib.hid (show (2 + L + 4 : Int) = ((m + 6 : Nat) : Int) by omega)
    clear h hl e1 e2 hs hlr hLL hm hLm
    go_enter Tryz.func113, Tryz.ntmps113
    go_wp2_with (go_at_call 117; refine FN.out.mono ?_; rintro e w' ⟨rfl, rfl⟩)
    go_ret2
    exact ⟨by rw [HE.out]; rfl, rfl⟩
end Go.Proofs.YtimbbfneaaglbaaGreat.Record

namespace Go.Proofs.YtimbbfneaaglbaaGreat.Record
open Go.RowKit Go.Proofs.YtimbbfneaaglbaaGreat.Ints Go.Proofs.YtimbbfneaaglbaaGreat.Mem Go.Proofs.YtimbbfneaaglbaaGreat.SumMath Go.Proofs.YtimbbfneaaglbaaGreat.SumWalks Go.Proofs.YtimbbfneaaglbaaGreat.Trace

/-- What a call that hands back what Get tells leaves. -/
def GotGet (w : World) (b : List Int) (p : Int) (e : Ending) (w' : World) : Prop :=
  ∃ K c, e = .returned (.tuple #[.agg #[.int .u64 (getE b p).time, .slice K (getE b p).ids.length c], .int .i64 (getN b p : Nat), .int .i64 (errR b (propsR p) : Nat)]) ∧
    EvOk w' (getE b p) K c ∧ Below w.heap.size w w' ∧ ∀ a, K = some a → w.heap.size ≤ a.block
theorem no_ok (w : World) : EvOk w noEv none 0 := ⟨by decide, Rd.nil _ _ _, Nat.le_refl _, by decide⟩
theorem got_none {w w' : World} {b : List Int} {p : Int} {n : Nat} (h : errR b (propsR p) = n) (hn : n ≠ 0) (hb : Below w.heap.size w w') :
    GotGet w b p (.returned (.tuple #[.agg #[.int .u64 0, .slice none 0 0], .int .i64 0, .int .i64 (n : Nat)])) w' := by
  have e1 : getE b p = noEv := by unfold getE; rw [h, if_neg hn]
  have e2 : getN b p = 0 := by unfold getN; rw [h, if_neg hn]
  unfold GotGet
  rw [e1, e2, h]
  exact ⟨none, 0, rfl, no_ok _, hb, fun a e => by cases e⟩

theorem set2_cell (W : World) (g : Nat) (u0 u1 : Value) (p : Addr) (hp : p.block ≠ g) : ((W.setCell ⟨g, 0, none⟩ u0).setCell ⟨g, 1, none⟩ u1).cell? p = W.cell? p := by
  rw [World.cell?_of_block (w := W.setCell ⟨g, 0, none⟩ u0) (Below.heap_setCell _ ⟨g, 1, none⟩ u1 p.block hp), World.cell?_of_block (w := W) (Below.heap_setCell _ ⟨g, 0, none⟩ u0 p.block hp)]
def m10 (L : Nat) : Nat := L - 8 + 10

set_option maxHeartbeats 4000000 in
set_option maxRecDepth 100000 in
theorem landGet (A : Option Addr) (n c : Nat) (zs : List Int) (p : Int) (w : World) (hnc : n ≤ c) (hc : c ≤ maxLen) (h : Rd .u8 w A n zs) :
    Calls Tryz.prog 107 #[.slice A n c, .int .i64 p] w (GotGet w zs p) := by
  have q63 : maxLen = 9223372036854775807 := rfl
  have hl := h.len
  have hby := all_u8 h.all
  have hpb := props_bd p
  obtain ⟨q, hq⟩ : ∃ q, propsR p = q := ⟨_, rfl⟩
  have hq2 : min (max p 0) 64 = q := hq
  rw [hq] at hpb
  have FS := Lib.hid (landSize A n c zs q (w.alloc (.cells #[.int .u64 0, .slice none 0 0] 38)) hnc hc (h.alloc _) hpb)
  by_cases h0 : sizeE zs q = 0
  · obtain ⟨L, hLr⟩ : ∃ L, lenR zs = L := ⟨_, rfl⟩
    have hN : sizeN zs q = L + 6 := by unfold sizeN; rw [if_pos h0, hLr]
    have hb : 8 ≤ L ∧ L ≤ 72 ∧ L + 6 ≤ n := by
      unfold sizeE at h0
      rw [hLr, hl] at h0
      split at h0 <;> (try omega)
      split at h0 <;> (try omega)
      split at h0 <;> (try omega)
      split at h0 <;> omega
    obtain ⟨hL1, hL2, hL3⟩ := hb
    rw [hN, h0] at FS
    obtain ⟨b, off, rfl, -⟩ := h.cell (by omega)
    have ht := h.take (m := L + 6) (by omega)
    have hR := right_land (some ⟨b, off, none⟩) (L + 6) c (zs.take (L + 6)) w (by omega) hc (by omega) ht
    have hE : errR zs (propsR p) = if sealedB (zs.take (L + 6)) = false then 6 else if idsOk (evR zs).ids q = false then 9 else 0 := by
      unfold errR
      rw [hq, if_neg (by omega), hLr]
    have g1 : (L : Int) + 6 ≤ (c : Int) := by omega
    have g2 : ((L + 6 : Nat) : Int) ≤ (c : Int) := by omega
    rcases hse : sealedB (zs.take (L + 6))
    · rw [if_pos hse] at hE
      have HG := Lib.hid (fun W (hb : Below w.heap.size w W) => got_none (w := w) (w' := W) hE (by decide) hb)
      have hR1 := hR (w.alloc (.cells #[.int .u64 0, .slice none 0 0] 38)) (ht.alloc _)
      unfold AnsR openN at hR1
      rw [hse] at hR1
      have HR := Lib.hid hR1
      clear hR hR1 ht h hE hse hl hby hq hN hLr h0
      go_enter Tryz.func107, Tryz.ntmps107
      go_wp2_with fail
      refine FS.out.mono ?_
      rintro e w' ⟨rfl, rfl⟩
      go_wp2_with fail
      refine HR.out.mono ?_
      rintro e w' ⟨A1, c1, rfl, -, -, -, hB1⟩
      have b0 := (Blk.new w #[.int .u64 0, .slice none 0 0] 38 [.int .u64 0, .slice none 0 0] rfl).later hB1
      have r0 := b0.cell 0 rfl
      have r1 := b0.cell 1 rfl
      have q0 := b0.fz 0 rfl
      have q1 := b0.fz 1 rfl
      clear b0
      go_wp2
      refine bodyPost_ret (v := .tuple #[.agg #[.int .u64 0, .slice none 0 0], .int .i64 0, .int .i64 (6 : Nat)]) (by simp [results, Tryz.results107, go_sem, r0, r1]) rfl ?_
      exact HG.out _ (((below_alloc hB1).setCell (Nat.le_refl _) _).setCell (Nat.le_refl _) _)
    · rw [if_neg (by rw [hse]; decide)] at hE
      have hR1 := hR (w.alloc (.cells #[.int .u64 0, .slice none 0 0] 38)) (ht.alloc _)
      have htl : (zs.take (L + 6)).length = L + 6 := ht.len
      unfold AnsR openN openL at hR1
      rw [hse, htl, if_pos rfl, if_pos rfl, List.take_take, show L + 6 - 4 = L + 2 by omega, show min (L + 2) (L + 6) = L + 2 by omega] at hR1
      have HR := Lib.hid hR1
      have hev : evR zs = ⟨numR (((zs.take (L + 2)).drop 2).take 8), (zs.take (L + 2)).drop 10⟩ := by
        unfold evR
        rw [hLr, List.drop_take, List.drop_take, List.take_take, show L + 2 - 2 = L by omega, show min 8 L = 8 by omega, show L + 2 - 10 = L - 8 by omega]
      have hlen : (evR zs).ids.length = L - 8 := by
        rw [hev]
        show ((zs.take (L + 2)).drop 10).length = L - 8
        rw [List.length_drop, List.length_take]
        omega
      have FE := fun b1 off1 c1 W (h1 : m10 L ≤ c1) (h2 : c1 ≤ maxLen) (h3 : Rd .u8 W (some ⟨b1, off1, none⟩) (L - 8 + 10) (zs.take (L + 2))) => landEvent b1 off1 (L - 8) c1 _ W (by omega) h1 h2 h3
      rw [← hev] at FE
      have HE := Lib.hid hE
      have HF := Lib.hid FE
      have HL := Lib.hid hlen
      obtain ⟨x, hx⟩ : ∃ x, evR zs = x := ⟨_, rfl⟩
      rw [hx] at HE HF HL
      have HX := Lib.hid hx
      have HQ := Lib.hid hq
      have HLR := Lib.hid hLr
      clear hR hR1 ht htl h hE hse hl hby hq hN hLr h0 hev hlen FE hx
      go_enter Tryz.func107, Tryz.ntmps107
      go_wp2_with fail
      refine FS.out.mono ?_
      rintro e w' ⟨rfl, rfl⟩
      go_wp2_with fail
      refine HR.out.mono ?_
      rintro e w1 ⟨A1, c1, rfl, hr1, hc1, hm1, hB1⟩
      have b0 := (Blk.new w #[.int .u64 0, .slice none 0 0] 38 [.int .u64 0, .slice none 0 0] rfl).later hB1
      have hb1 := below_alloc hB1
      obtain ⟨b1, off1, rfl, -⟩ := hr1.cell (by omega)
      have FE := Lib.hid (HF.out b1 off1 c1 w1 (by unfold m10; omega) hm1 (by rwa [show L - 8 + 10 = L + 2 by omega]))
      rw [show L - 8 + 10 = L + 2 by omega] at FE
      have B0 := Lib.hid b0
      have HLT := Lib.hid (show w.heap.size < w1.heap.size from b0.1)
      have HB1 := Lib.hid hb1
      clear b0 hr1 hB1 hb1
      go_wp2_with fail
      refine FE.out.mono ?_
      rintro e w2 ⟨K, ck, rfl, hk, hB2, hfar⟩
      have b0 := B0.out.later hB2
      have hb2 := HB1.out.trans (hB2.mono HB1.out.size)
      have e0 := Blk.new w2 #[.int .u64 x.time, .slice K x.ids.length ck] 38 [.int .u64 x.time, .slice K x.ids.length ck] rfl
      have FI := Lib.hid (landRising K x.ids.length ck q x.ids (w2.alloc (.cells #[.int .u64 x.time, .slice K x.ids.length ck] 38)) (hk.2.1.alloc _) (by have := hk.2.2; omega))
      have BW := Lib.hid b0
      have B2 := Lib.hid (b0.alloc (.cells #[.int .u64 x.time, .slice K x.ids.length ck] 38))
      have HK := Lib.hid hk
      have HB2 := Lib.hid hb2
      have HF2 := Lib.hid hfar
      have y0 := e0.cell 0 rfl
      have y1 := e0.cell 1 rfl
      have E0 := Lib.hid e0
      rw [HL.out] at FI B2 y1 E0 ⊢
      clear hk hb2 hB2 hfar b0 e0 FE
      go_wp2_with fail
      rcases hok : idsOk x.ids q
      · rw [hok] at FI
        have hE2 := HE.out
        rw [if_pos hok] at hE2
        have HG := Lib.hid (fun W (hb : Below w.heap.size w W) => got_none (w := w) (w' := W) hE2 (by decide) hb)
        have b2 := B2.out
        have r0 := b2.cell 0 rfl
        have r1 := b2.cell 1 rfl
        have q0 := b2.fz 0 rfl
        have q1 := b2.fz 1 rfl
        have s0 := BW.out.cell 0 rfl
        have s1 := BW.out.cell 1 rfl
        have p0 := BW.out.fz 0 rfl
        have p1 := BW.out.fz 1 rfl
        clear hE2 b2 hok
        refine FI.out.mono ?_
        rintro e w3 ⟨rfl, rfl⟩
        go_wp2
        have z := B2.out.set 0 (.int .u64 0) (by simp)
        have z0 := z.cell 0 rfl
        have z1 := (z.set 1 (.slice none 0 0) (by simp)).cell 1 rfl
        refine bodyPost_ret (v := .tuple #[.agg #[.int .u64 0, .slice none 0 0], .int .i64 0, .int .i64 (9 : Nat)]) (by simp [results, Tryz.results107, go_sem, z0, z1]) rfl ?_
        exact HG.out _ (((HB2.out.alloc HB2.out.size _).setCell (Nat.le_refl _) _).setCell (Nat.le_refl _) _)
      · rw [hok] at FI
        have hE2 := HE.out
        rw [if_neg (by rw [hok]; decide)] at hE2
        have b2 := B2.out
        have r0 := b2.cell 0 rfl
        have r1 := b2.cell 1 rfl
        have q0 := b2.fz 0 rfl
        have q1 := b2.fz 1 rfl
        have s0 := BW.out.cell 0 rfl
        have s1 := BW.out.cell 1 rfl
        have p0 := BW.out.fz 0 rfl
        have p1 := BW.out.fz 1 rfl
        have HE2 := Lib.hid hE2
        clear hE2 b2 hok
        refine FI.out.mono ?_
        rintro e w3 ⟨rfl, rfl⟩
        go_wp2
        have z := B2.out.set 0 (.int .u64 x.time) (by simp)
        have z0 := z.cell 0 rfl
        have z1 := (z.set 1 (.slice K (L - 8) ck) (by simp)).cell 1 rfl
        refine bodyPost_ret (v := .tuple #[.agg #[.int .u64 x.time, .slice K (L - 8) ck], .int .i64 ((L : Int) + 6), .int .i64 0]) (by simp [results, Tryz.results107, go_sem, z0, z1]) rfl ?_
        have e1 : getE zs p = x := by unfold getE; rw [if_pos HE2.out, HX.out]
        have e2 : getN zs p = L + 6 := by unfold getN; rw [if_pos HE2.out, HLR.out]
        unfold GotGet
        rw [e1, e2, HE2.out, HL.out]
        refine ⟨K, ck, rfl, ⟨HK.out.1, ?_, HK.out.2.2⟩, ((HB2.out.alloc HB2.out.size _).setCell (Nat.le_refl _) _).setCell (Nat.le_refl _) _, fun a ha => Nat.le_trans HB1.out.size (HF2.out a ha)⟩
        refine HK.out.2.1.keep fun a u ha hu => ?_
        obtain ⟨a1, e3, e4⟩ : ∃ a1, K = some a1 ∧ a1.block = a.block := by
          cases K with
          | none => cases ha
          | some a1 => simp at ha; exact ⟨a1, rfl, ha⟩
        have hge := HF2.out a1 e3
        have hlt1 := HLT.out
        rw [set2_cell _ w.heap.size _ _ a (by omega)]
        exact Lib.cell?_alloc_marked _ hu
  · have he : errR zs (propsR p) = sizeE zs q := by unfold errR; rw [hq, if_pos h0]
    have hne := h0
    have hN : sizeN zs q = 0 := by unfold sizeN; rw [if_neg h0]
    have HG := Lib.hid (fun W (hb : Below w.heap.size w W) => got_none (w := w) (w' := W) he hne hb)
    rw [hN] at FS
    have hbq : (sizeE zs q : Int) ≤ 13 := by unfold sizeE; split <;> (try split) <;> (try split) <;> (try split) <;> omega
    obtain ⟨s, hs⟩ : ∃ s, sizeE zs q = s := ⟨_, rfl⟩
    rw [hs] at FS HG h0
    have hs0 : ((s : Int) == 0) = false := by simp; omega
    clear h hl hby hq hN he hbq hs hne
    go_enter Tryz.func107, Tryz.ntmps107
    go_wp2_with fail
    refine FS.out.mono ?_
    rintro e w' ⟨rfl, rfl⟩
    have b0 := Blk.new w #[.int .u64 0, .slice none 0 0] 38 [.int .u64 0, .slice none 0 0] rfl
    have r0 := b0.cell 0 rfl
    have r1 := b0.cell 1 rfl
    have q0 := b0.fz 0 rfl
    have q1 := b0.fz 1 rfl
    clear b0
    go_wp2
    refine bodyPost_ret (v := .tuple #[.agg #[.int .u64 0, .slice none 0 0], .int .i64 0, .int .i64 (s : Nat)]) (by simp [results, Tryz.results107, go_sem, r0, r1]) rfl ?_
    exact HG.out _ ((Below.refl _ _).alloc (Nat.le_refl _) _)
end Go.Proofs.YtimbbfneaaglbaaGreat.Record

namespace Go.Proofs.YtimbbfneaaglbaaGreat.Scan
open Go.RowKit Go.Proofs.YtimbbfneaaglbaaGreat.Ints Go.Proofs.YtimbbfneaaglbaaGreat.Mem Go.Proofs.YtimbbfneaaglbaaGreat.SumMath Go.Proofs.YtimbbfneaaglbaaGreat.SumWalks Go.Proofs.YtimbbfneaaglbaaGreat.Trace Go.Proofs.YtimbbfneaaglbaaGreat.Record Go.Proofs.YtimbbfneaaglbaaGreat.Log Go.Proofs.YtimbbfneaaglbaaGreat.Src

/-- The bytes from a place on that can be read. -/
def restB (b : List Int) (f : Nat) (p : Int) : List Int := (b.take f).drop (min p.toNat f)
/-- What is wrong with the record at a place. -/
def scanE (b : List Int) (f : Nat) (p props : Int) : Nat :=
  if p < 0 then 1 else if (b.length : Int) ≤ p then 13
  else if f < b.length ∧ (errR (restB b f p) (propsR props) = 13 ∨ errR (restB b f p) (propsR props) = 7) then 10 else errR (restB b f p) (propsR props)
def scanV (b : List Int) (f : Nat) (p props : Int) : Ev := if scanE b f p props = 0 then getE (restB b f p) props else noEv
def scanN (b : List Int) (f : Nat) (p props : Int) : Nat := if scanE b f p props = 0 then p.toNat + getN (restB b f p) props else 0
theorem evok_set {W : World} {g : Nat} {x : Ev} {K : Option Addr} {c : Nat} (h : EvOk W x K c) (hne : ∀ a, K = some a → a.block ≠ g) (u0 u1 : Value) : EvOk ((W.setCell ⟨g, 0, none⟩ u0).setCell ⟨g, 1, none⟩ u1) x K c :=
  ⟨h.1, h.2.1.keep fun p u hp hu => by
    obtain ⟨a, ha, hb⟩ := Option.map_eq_some_iff.1 hp
    rw [Record.set2_cell W g u0 u1 p (by rw [← hb]; exact hne a ha)]
    exact hu, h.2.2⟩
end Go.Proofs.YtimbbfneaaglbaaGreat.Scan
