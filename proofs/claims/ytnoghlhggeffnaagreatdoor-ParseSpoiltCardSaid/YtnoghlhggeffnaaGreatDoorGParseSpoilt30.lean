/-
  The walk of the reference's span, whole. A part of the reference's reader as a contract; stars.
    Made of several texts by wip/tools/mergetpl.py. By an AI agent.
-/
import Derived.Test.YtnoghlhggeffnaaGreatDoorGParseSpoilt29
/- The walk of the reference's span, whole. By an AI agent. -/
namespace Go.Proofs.YtnoghlhggeffnaaGreatDoor.Parse
open Go.RowKit Go.Proofs.YtnoghlhggeffnaaGreatDoor.Ints Go.Proofs.YtnoghlhggeffnaaGreatDoor.Lex Go.Proofs.YtnoghlhggeffnaaGreatDoor.Tree

theorem RMemE.fp {Pr : Nat → Prop} {w w' : World} {base g : Nat} {ts : List Tk} {σ : RS} (h : RMemE Pr w base g ts σ) (hg : w.grownBy w' (some g)) : Fp Pr base w w' :=
  (Fp.refl Pr base w).grown hg h.low (fun k e => by injection e with e; rw [← e]; exact h.hg.1) (fun k e => by injection e with e; rw [← e]; exact h.hg.2.2)
/-- A store into a protected block. -/
theorem RMemE.aside {Pr : Nat → Prop} {w : World} {base g : Nat} {ts : List Tk} {σ : RS} (h : RMemE Pr w base g ts σ) {p : Addr} (hp : Pr p.block) (hb : base ≤ p.block) (u : Value) : RMemE Pr (w.setCell p u) base g ts σ := by
  obtain ⟨tv, lv, SN, h⟩ := h
  have hne : g ≠ p.block := fun e => h.sg (e ▸ hp)
  have hbl : Below base w (w.setCell p u) := (Below.refl _ _).setCell hb u
  have hgr : w.grownBy (w.setCell p u) (some p.block) := ⟨rfl, rfl, rfl, by simp, fun i _ hne => Below.heap_setCell w p u i (fun e => hne (by rw [e]))⟩
  exact ⟨tv, lv, SN, h.blk.other p u hne, h.hg, by simpa using h.hb, toks_kept h.toks h.tlow hbl, h.tlow, h.suf, h.nds.keep hgr (Or.inr fun e => h.sl _ e hp) (fun b hb e => hb.2 (by injection e with e; exact e ▸ hp)), h.ndl, h.lg, h.sg, h.sl⟩
/-- One token on. -/
theorem RMemE.step {Pr : Nat → Prop} {w : World} {base g : Nat} {ts : List Tk} {σ : RS} (h : RMemE Pr w base g ts σ) (hne : σ.rest ≠ []) {j : Nat} (hj : ts.length - σ.rest.length = j) : RMemE Pr (w.setCell ⟨g, 1, none⟩ (.int .i64 ((j : Int) + 1))) base g ts (tailF σ) := by
  obtain ⟨tv, lv, SN, h⟩ := h
  cases hr : σ.rest with
  | nil => exact absurd hr hne
  | cons t r =>
    have e : tailF σ = { σ with rest := r } := by unfold tailF; rw [hr]; rfl
    rw [e]
    exact ⟨tv, lv, SN, h.next hr hj⟩
theorem RMemE.at {Pr : Nat → Prop} {w : World} {base g : Nat} {ts : List Tk} {σ : RS} (h : RMemE Pr w base g ts σ) : w.cell? ⟨g, 1, none⟩ = some (.int .i64 ((ts.length - σ.rest.length : Nat) : Int)) ∧ w.frozen? ⟨g, 1, none⟩ = false := by
  obtain ⟨tv, lv, SN, h⟩ := h
  exact ⟨h.blk.cell 1 rfl, h.blk.fz 1 rfl⟩

/-- What span leaves. -/
def SpanDone (Pr : Nat → Prop) (base g : Nat) (ts : List Tk) (σ : RS) (w : World) (e : Ending) (w' : World) : Prop :=
  ∃ lo hi σ', e = .returned (.agg #[.int .i64 lo, .int .i64 hi]) ∧ RMemE Pr w' base g ts σ' ∧ Fp Pr base w w' ∧ ∀ k, 8 ≤ k → k ≤ 17 → SpanPost k σ lo hi σ'
set_option maxHeartbeats 8000000 in
theorem refSpanY {Pr : Nat → Prop} (base g : Nat) (ts : List Tk) (σ : RS) (w : World) (h : RMemE Pr w base g ts σ) (hlow : Lw Pr w) (hr : Ready σ) (hl : ts.length ≤ 5000) (hs : seesB 3 [91] σ = true) :
    Calls Tryz.prog 94 #[.pointer (some ⟨g, 0, none⟩)] w (SpanDone Pr base g ts σ w) := by
  have HL := Lib.hid hl
  have HF := Lib.hid (fun k h1 h2 => spanR_yes (k := k) h1 h2 hr hs)
  have S0 : Some1 σ := fun e => (hr.good e).1
  have HS0 := Lib.hid S0
  have HST := Lib.hid (tail_some S0 hs (List.cons_ne_nil _ _))
  have HSA := Lib.hid (spanA_some S0 hs)
  have HSN := Lib.hid (num_some (x := 0) (tail_some S0 hs (List.cons_ne_nil _ _)))
  have HSB := Lib.hid (spanB_some S0 hs)
  have HNE := Lib.hid (S0.ne (sees_yes hs).1)
  have HLO := Lib.hid hlow
  have HB := Lib.hid (((Below.refl w.heap.size w).alloc (Nat.le_refl _) (.cells #[.int .i64 0, .int .i64 0] 33)).alloc (by simp) (.cells #[.int .i64 0, .int .i64 (-1)] 33))
  have hm0 := (h.boxed (.cells #[.int .i64 0, .int .i64 0] 33)).boxed (.cells #[.int .i64 0, .int .i64 (-1)] 33)
  have hz : (w.alloc (.cells #[.int .i64 0, .int .i64 0] 33)).heap.size = w.heap.size + 1 := by simp
  rw [hz] at hm0
  obtain ⟨Q, hQ⟩ : ∃ Q : Nat → Prop, (fun b => (Pr b ∨ b = w.heap.size) ∨ b = w.heap.size + 1) = Q := ⟨_, rfl⟩
  have HQ := Lib.hid (show Q w.heap.size ∧ Q (w.heap.size + 1) ∧ (∀ b, Pr b → Q b) by rw [← hQ]; exact ⟨Or.inl (Or.inr rfl), Or.inr rfl, fun b hb => Or.inl (Or.inl hb)⟩)
  rw [hQ] at hm0
  have HM := Lib.hid hm0
  have hlw := h.low
  have hg := h.hg
  have h0 := (Blk.new w #[.int .i64 0, .int .i64 0] 33 _ rfl).alloc (.cells #[.int .i64 0, .int .i64 (-1)] 33)
  have h1 : Blk ((w.alloc (.cells #[.int .i64 0, .int .i64 0] 33)).alloc (.cells #[.int .i64 0, .int .i64 (-1)] 33)) (w.heap.size + 1) [.int .i64 0, .int .i64 (-1)] := by
    have := Blk.new (w.alloc (.cells #[.int .i64 0, .int .i64 0] 33)) #[.int .i64 0, .int .i64 (-1)] 33 _ rfl
    simpa using this
  have H0 := Lib.hid h0
  have H1 := Lib.hid h1
  have HG := Lib.hid (show g ≠ w.heap.size ∧ g ≠ w.heap.size + 1 ∧ base ≤ w.heap.size ∧ base ≤ w.heap.size + 1 by omega)
  have HP := Lib.hid (show ¬ Pr w.heap.size ∧ ¬ Pr (w.heap.size + 1) from ⟨fun e => absurd (hlow _ e) (by omega), fun e => absurd (hlow _ e) (by omega)⟩)
  have HSEE := Lib.hid (refSeesU base g ts σ 3 [91] _ HM.out (fun e => S0.ne e) hl)
  rw [hs] at HSEE
  clear h hlow hr hl S0 hs hz hQ hm0 hlw hg h0 h1
  obtain ⟨W, hW⟩ : ∃ W, (w.alloc (.cells #[.int .i64 0, .int .i64 0] 33)).alloc (.cells #[.int .i64 0, .int .i64 (-1)] 33) = W := ⟨_, rfl⟩
  have HW := Lib.hid hW
  rw [hW] at HM HB H0 H1 HSEE
  clear hW
  go_enter Tryz.func94, Tryz.ntmps94
  go_wp2_with fail
  rw [HW.out]
  refine HSEE.out.mono ?_
  rintro e w1 ⟨rfl, hb⟩
  have hm1 := HM.out.later hb
  obtain ⟨c1, f1⟩ := hm1.at
  obtain ⟨j, hj⟩ : ∃ j, ts.length - σ.rest.length = j := ⟨_, rfl⟩
  rw [hj] at c1
  have hj5 : (j : Int) ≤ 5000 := by have := HL.out; omega
  have hj0 : (0 : Int) ≤ (j : Int) := by omega
  have HM1 := Lib.hid (hm1.step HNE.out hj)
  have HF1 := Lib.hid ((HB.out.trans (hb.mono HB.out.size)))
  have HA0 := Lib.hid ((H0.out.later hb).other ⟨g, 1, none⟩ (.int .i64 ((j : Int) + 1)) (fun e => HG.out.1 e.symm))
  have HA1 := Lib.hid ((H1.out.later hb).other ⟨g, 1, none⟩ (.int .i64 ((j : Int) + 1)) (fun e => HG.out.2.1 e.symm))
  have HX1 := Lib.hid ((Fp.later (Pr := Pr) HF1.out HG.out.2.2.1).setCell (p := ⟨g, 1, none⟩) hm1.hg.1 (fun e => hm1.hg.2.2 (HQ.out.2.2 _ e)) (.int .i64 ((j : Int) + 1)))
  clear hb hm1 hj
  go_wp2_with fail
  refine (refNumberU base g ts (tailF σ) 0 _ HM1.out HST.out.ne HL.out).mono ?_
  rintro e w2 ⟨rfl, hm, hgr⟩
  have HX2 := Lib.hid (HX1.out.trans ((HM1.out.fp hgr).mono HQ.out.2.2))
  have hb0 := HA0.out.grown hgr (fun e => HG.out.1 (by injection e with e; exact e.symm))
  have hb1 := HA1.out.grown hgr (fun e => HG.out.2.1 (by injection e with e; exact e.symm))
  have c10 := hb1.cell 0 rfl
  have f10 := hb1.fz 0 rfl
  obtain ⟨lo, hlo⟩ : ∃ lo, numX 0 (tailF σ) = lo := ⟨_, rfl⟩
  have HLE := Lib.hid (show spanLo σ = lo from hlo)
  have HLS := Lib.hid (show 0 ≤ lo ∧ lo ≤ 9999 by rw [← hlo]; exact (numX_small HST.out).2)
  rw [hlo]
  clear hlo
  have HM2 := Lib.hid (hm.aside (p := ⟨w.heap.size + 1, 0, none⟩) HQ.out.2.1 HG.out.2.2.2 (.int .i64 lo))
  have HX3 := Lib.hid (HX2.out.setCell (p := ⟨w.heap.size + 1, 0, none⟩) HG.out.2.2.2 HP.out.2 (.int .i64 lo))
  have HA0' := Lib.hid (hb0.other ⟨w.heap.size + 1, 0, none⟩ (.int .i64 lo) (by show w.heap.size ≠ w.heap.size + 1; omega))
  have HA1' := Lib.hid (hb1.set 0 (.int .i64 lo) (by simp))
  clear hm hgr hb0 hb1
  go_wp2_with fail
  refine (refTakesU base g ts _ [44] _ HM2.out HSN.out.ne HL.out).mono ?_
  rintro e w3 ⟨rfl, hm, hgr⟩
  have HM3 := Lib.hid (show RMemE Q w3 base g ts (spanA σ) from hm)
  have HX4 := Lib.hid (HX3.out.trans ((HM2.out.fp hgr).mono HQ.out.2.2))
  have HB0 := Lib.hid (HA0'.out.grown hgr (fun e => HG.out.1 (by injection e with e; exact e.symm)))
  have HB1 := Lib.hid (HA1'.out.grown hgr (fun e => HG.out.2.1 (by injection e with e; exact e.symm)))
  clear hm hgr
  go_wp2_with fail
  refine (refSeesU base g ts (spanA σ) 3 [42] _ HM3.out HSA.out.ne HL.out).mono ?_
  rintro e w4 ⟨rfl, hb⟩
  have HM4 := Lib.hid (HM3.out.later hb)
  have HX5 := Lib.hid (HX4.out.trans (Fp.later hb HM3.out.low))
  have HC0 := Lib.hid (HB0.out.later hb)
  have hc1 := HB1.out.later hb
  have HC1 := Lib.hid hc1
  have HFN := Lib.hid HF.out
  clear hb
  by_cases hst : seesB 3 [42] (spanA σ) = true
  · have HEB := Lib.hid (show spanB σ = tailF (spanA σ) by unfold spanB; rw [if_pos hst])
    have HEH := Lib.hid (show spanHi σ = -1 by unfold spanHi; rw [if_pos hst])
    have HNE2 := Lib.hid (HSA.out.ne (sees_yes hst).1)
    rw [hst]
    obtain ⟨c1, f1⟩ := HM4.out.at
    obtain ⟨j2, hj⟩ : ∃ j, ts.length - (spanA σ).rest.length = j := ⟨_, rfl⟩
    rw [hj] at c1
    have hj25 : (j2 : Int) ≤ 5000 := by have := HL.out; omega
    have hj20 : (0 : Int) ≤ (j2 : Int) := by omega
    have hm5 := HM4.out.step HNE2.out hj
    rw [← HEB.out] at hm5
    have HM5 := Lib.hid hm5
    have HX6 := Lib.hid (HX5.out.setCell (p := ⟨g, 1, none⟩) HM4.out.hg.1 (fun e => HM4.out.hg.2.2 (HQ.out.2.2 _ e)) (.int .i64 ((j2 : Int) + 1)))
    have HD0 := Lib.hid (HC0.out.other ⟨g, 1, none⟩ (.int .i64 ((j2 : Int) + 1)) (fun e => HG.out.1 e.symm))
    have HD1 := Lib.hid (HC1.out.other ⟨g, 1, none⟩ (.int .i64 ((j2 : Int) + 1)) (fun e => HG.out.2.1 e.symm))
    clear hst hj hm5 hc1
    go_wp2_with fail
    refine (refTakesU base g ts (spanB σ) [93] _ HM5.out HSB.out.ne HL.out).mono ?_
    rintro e w5 ⟨rfl, hm, hgr⟩
    have HM6 := Lib.hid (show RMemE Q w5 base g ts (spanF σ) from hm)
    have HX7 := Lib.hid (HX6.out.trans ((HM5.out.fp hgr).mono HQ.out.2.2))
    have he0 := HD0.out.grown hgr (fun e => HG.out.1 (by injection e with e; exact e.symm))
    have he1 := HD1.out.grown hgr (fun e => HG.out.2.1 (by injection e with e; exact e.symm))
    have c20 := he1.cell 0 rfl
    have c21 := he1.cell 1 rfl
    have r20 := he0.cell 0 rfl
    have r21 := he0.cell 1 rfl
    have fr0 := he0.fz 0 rfl
    have fr1 := he0.fz 1 rfl
    have HE0 := Lib.hid he0
    clear hm hgr he0 he1
    go_wp2_with fail
    have b0 := (HE0.out.set 0 (.int .i64 lo) (by simp)).set 1 (.int .i64 (-1)) (by simp)
    have d0 := b0.cell 0 rfl
    have d1 := b0.cell 1 rfl
    refine bodyPost_ret (v := .agg #[.int .i64 lo, .int .i64 (-1)]) (by simp [results, Tryz.results94, go_sem, d0, d1]) rfl ?_
    refine ⟨lo, -1, spanF σ, rfl, ((HM6.out.aside (p := ⟨w.heap.size, 0, none⟩) HQ.out.1 HG.out.2.2.1 _).aside (p := ⟨w.heap.size, 1, none⟩) HQ.out.1 HG.out.2.2.1 _).mono (fun b _ hb hp => hb (HQ.out.2.2 b hp)), (HX7.out.setCell (p := ⟨w.heap.size, 0, none⟩) HG.out.2.2.1 HP.out.1 _).setCell (p := ⟨w.heap.size, 1, none⟩) HG.out.2.2.1 HP.out.1 _, fun k h1 h2 => ?_⟩
    have := HF.out k h1 h2
    rw [HLE.out, HEH.out] at this
    exact this
  · have HEB := Lib.hid (show spanB σ = numF lo (spanA σ) by unfold spanB; rw [if_neg hst, HLE.out])
    have HEH := Lib.hid (show spanHi σ = numX lo (spanA σ) by unfold spanHi; rw [if_neg hst, HLE.out])
    rw [Bool.not_eq_true] at hst
    rw [hst]
    have c30 := hc1.cell 0 rfl
    clear hst hc1
    go_wp2_with fail
    refine (refNumberU base g ts (spanA σ) lo _ HM4.out HSA.out.ne HL.out).mono ?_
    rintro e w5 ⟨rfl, hm, hgr⟩
    have hc1 := HC1.out.grown hgr (fun e => HG.out.2.1 (by injection e with e; exact e.symm))
    have HX6 := Lib.hid (HX5.out.trans ((HM4.out.fp hgr).mono HQ.out.2.2))
    have hd0 := HC0.out.grown hgr (fun e => HG.out.1 (by injection e with e; exact e.symm))
    have c41 := hc1.cell 1 rfl
    have f41 := hc1.fz 1 rfl
    rw [← HEB.out] at hm
    obtain ⟨hi, hhi⟩ : ∃ hi, numX lo (spanA σ) = hi := ⟨_, rfl⟩
    have HHE := Lib.hid (show spanHi σ = hi by rw [HEH.out]; exact hhi)
    rw [hhi]
    clear hhi
    have HM5 := Lib.hid (hm.aside (p := ⟨w.heap.size + 1, 1, none⟩) HQ.out.2.1 HG.out.2.2.2 (.int .i64 hi))
    have HX7 := Lib.hid (HX6.out.setCell (p := ⟨w.heap.size + 1, 1, none⟩) HG.out.2.2.2 HP.out.2 (.int .i64 hi))
    have HD0 := Lib.hid (hd0.other ⟨w.heap.size + 1, 1, none⟩ (.int .i64 hi) (by show w.heap.size ≠ w.heap.size + 1; omega))
    have HD1 := Lib.hid (hc1.set 1 (.int .i64 hi) (by simp))
    clear hm hgr hc1 hd0
    go_wp2_with fail
    refine (refTakesU base g ts (spanB σ) [93] _ HM5.out HSB.out.ne HL.out).mono ?_
    rintro e w6 ⟨rfl, hm, hgr⟩
    have HM6 := Lib.hid (show RMemE Q w6 base g ts (spanF σ) from hm)
    have HX8 := Lib.hid (HX7.out.trans ((HM5.out.fp hgr).mono HQ.out.2.2))
    have he0 := HD0.out.grown hgr (fun e => HG.out.1 (by injection e with e; exact e.symm))
    have he1 := HD1.out.grown hgr (fun e => HG.out.2.1 (by injection e with e; exact e.symm))
    have c20 := he1.cell 0 rfl
    have c21 := he1.cell 1 rfl
    have r20 := he0.cell 0 rfl
    have r21 := he0.cell 1 rfl
    have fr0 := he0.fz 0 rfl
    have fr1 := he0.fz 1 rfl
    have HE0 := Lib.hid he0
    clear hm hgr he0 he1
    go_wp2_with fail
    have b0 := (HE0.out.set 0 (.int .i64 lo) (by simp)).set 1 (.int .i64 hi) (by simp)
    have d0 := b0.cell 0 rfl
    have d1 := b0.cell 1 rfl
    refine bodyPost_ret (v := .agg #[.int .i64 lo, .int .i64 hi]) (by simp [results, Tryz.results94, go_sem, d0, d1]) rfl ?_
    refine ⟨lo, hi, spanF σ, rfl, ((HM6.out.aside (p := ⟨w.heap.size, 0, none⟩) HQ.out.1 HG.out.2.2.1 _).aside (p := ⟨w.heap.size, 1, none⟩) HQ.out.1 HG.out.2.2.1 _).mono (fun b _ hb hp => hb (HQ.out.2.2 b hp)), (HX8.out.setCell (p := ⟨w.heap.size, 0, none⟩) HG.out.2.2.1 HP.out.1 _).setCell (p := ⟨w.heap.size, 1, none⟩) HG.out.2.2.1 HP.out.1 _, fun k h1 h2 => ?_⟩
    have := HF.out k h1 h2
    rw [HLE.out, HHE.out] at this
    exact this
/-- span, whole. -/
theorem refSpan {Pr : Nat → Prop} (base g : Nat) (ts : List Tk) (σ : RS) (w : World) (h : RMemE Pr w base g ts σ) (hlow : Lw Pr w) (hr : Ready σ) (hl : ts.length ≤ 5000) :
    Calls Tryz.prog 94 #[.pointer (some ⟨g, 0, none⟩)] w (SpanDone Pr base g ts σ w) := by
  by_cases hs : seesB 3 [91] σ = true
  · exact refSpanY base g ts σ w h hlow hr hl hs
  · rw [Bool.not_eq_true] at hs
    have hq : ∀ e w', (e = .returned (.agg #[.int .i64 0, .int .i64 (-1)]) ∧ Below w.heap.size w w') → SpanDone Pr base g ts σ w e w' := fun e w' ⟨h1, h2⟩ => ⟨0, -1, σ, h1, h.later h2, Fp.later h2 h.low, fun k k1 k2 => spanR_no k1 k2 hr hs⟩
    by_cases he : σ.err = 0
    · obtain ⟨t, r, h1, -⟩ := (hr.good he).1.split
      refine (refSpan0 base g ts σ t r w h he h1 hl ?_).mono hq
      intro hk
      unfold seesB at hs
      rw [h1] at hs
      simp [he, hk.1, hk.2] at hs
    · exact (refSpanN base g ts σ w h he).mono hq
end Go.Proofs.YtnoghlhggeffnaaGreatDoor.Parse

/- A part of the reference's reader as a contract; stars. By an AI agent. -/
namespace Go.Proofs.YtnoghlhggeffnaaGreatDoor.Parse
open Go.RowKit Go.Proofs.YtnoghlhggeffnaaGreatDoor.Ints Go.Proofs.YtnoghlhggeffnaaGreatDoor.Lex Go.Proofs.YtnoghlhggeffnaaGreatDoor.Tree

/-- What a part leaves. -/
def PartDone (Pr : Nat → Prop) (base g : Nat) (ts : List Tk) (nt : NT) (σ : RS) (w : World) (e : Ending) (w' : World) : Prop :=
  ∃ v σ', e = .returned (.int .i64 v) ∧ RMemE Pr w' base g ts σ' ∧ Fp Pr base w w' ∧ Post nt σ v σ'
/-- The function f reads the part nt, where at most n tokens are left. -/
def Part (f : Nat) (nt : NT) (n : Nat) : Prop := ∀ (Pr : Nat → Prop) (base g : Nat) (ts : List Tk) (σ : RS) (w : World), RMemE Pr w base g ts σ → Lw Pr w → Ready σ → (σ.err = 0 → σ.rest.length ≤ n) → ts.length ≤ 5000 →
  Calls Tryz.prog f #[.pointer (some ⟨g, 0, none⟩)] w (PartDone Pr base g ts nt σ w)
/-- How many rounds are left, at most. -/
def leftAt (w : World) (g n : Nat) : Nat := match w.cell? ⟨g, 5, none⟩, w.cell? ⟨g, 1, none⟩ with
  | some (.int _ e), some (.int _ a) => if e = 0 then n + 1 - a.toNat else 0
  | _, _ => 0
theorem RMemE.left {Pr : Nat → Prop} {w : World} {base g : Nat} {ts : List Tk} {σ : RS} (h : RMemE Pr w base g ts σ) : leftAt w g ts.length = if σ.err = 0 then σ.rest.length + 1 else 0 := by
  obtain ⟨tv, lv, SN, h⟩ := h
  have hl := h.suf.length_le
  unfold leftAt
  rw [h.blk.cell 5 rfl, h.blk.cell 1 rfl]
  show (if ((σ.err : Nat) : Int) = 0 then ts.length + 1 - ((ts.length - σ.rest.length : Nat) : Int).toNat else 0) = _
  by_cases he : σ.err = 0
  · rw [if_pos he, if_pos (by omega)]; omega
  · rw [if_neg he, if_neg (by omega)]
/-- What emit leaves. -/
def EmitDone (Pr : Nat → Prop) (base g : Nat) (ts : List Tk) (σ : RS) (n : Nd) (w : World) (e : Ending) (w' : World) : Prop :=
  e = .returned (.int .i64 (σ.nodes.length : Int)) ∧ RMemE Pr w' base g ts { σ with nodes := σ.nodes ++ [n] } ∧ Fp Pr base w w'
theorem wf_small {x : Int} (h : 0 ≤ x ∧ x ≤ 100000) : (Lit.int .i64 x).wf = true := by
  simp [Lit.wf, IntKind.min, IntKind.max, IntKind.signed, IntKind.bits]
  omega
theorem rd_one {w : World} {a : Int} (ha : 0 ≤ a ∧ a ≤ 100000) (T : TypeId) : Rd .i64 (w.alloc (.cells #[.int .i64 a] T)) (some ⟨w.heap.size, 0, none⟩) 1 [a] := by
  have hb := Blk.new w #[.int .i64 a] T _ rfl
  refine ⟨rfl, fun j hj => ?_, fun _ => ⟨_, 0, rfl, fun j hj => ?_⟩⟩
  · obtain rfl : j = 0 := by omega
    exact wf_small ha
  · obtain rfl : j = 0 := by omega
    exact hb.cell 0 rfl
theorem rd_two {w : World} {a b : Int} (ha : 0 ≤ a ∧ a ≤ 100000) (hb : 0 ≤ b ∧ b ≤ 100000) (T : TypeId) : Rd .i64 (w.alloc (.cells #[.int .i64 a, .int .i64 b] T)) (some ⟨w.heap.size, 0, none⟩) 2 [a, b] := by
  have hB := Blk.new w #[.int .i64 a, .int .i64 b] T _ rfl
  refine ⟨rfl, fun j hj => ?_, fun _ => ⟨_, 0, rfl, fun j hj => ?_⟩⟩
  · obtain rfl | rfl : j = 0 ∨ j = 1 := by omega
    · exact wf_small ha
    · exact wf_small hb
  · obtain rfl | rfl : j = 0 ∨ j = 1 := by omega
    · exact hB.cell 0 rfl
    · exact hB.cell 1 rfl
theorem refEmit1 {Pr : Nat → Prop} (base g : Nat) (ts : List Tk) (σ : RS) (k : Nat) (lo hi a : Int) (T : TypeId) (w : World) (B : Nat) (hB : B = w.heap.size) (h : RMemE Pr w base g ts σ) (hlow : Lw Pr w) (hk : k ≤ 100) (hs : small64 lo ∧ small64 hi) (ha : 0 ≤ a ∧ a ≤ 100000) (hN : σ.nodes.length ≤ 60000) :
    Calls Tryz.prog 58 #[.pointer (some ⟨g, 0, none⟩), .agg #[.int .i64 k, .string ⟨#[]⟩, .int .i64 lo, .int .i64 hi, .slice (some ⟨B, 0, none⟩) 1 1]] (w.alloc (.cells #[.int .i64 a] T)) (EmitDone Pr base g ts σ (nd1 k lo hi [a]) w) := by
  subst hB
  have hb : Below w.heap.size w (w.alloc (.cells #[.int .i64 a] T)) := (Below.refl _ _).alloc (Nat.le_refl _) _
  refine (refEmit base g ts σ (nd1 k lo hi [a]) (some ⟨w.heap.size, 0, none⟩) 1 1 w _ h hlow hb rfl ⟨by show small64 (k : Int); unfold small64; omega, hs.1, hs.2, Nat.zero_le _, rd_one ha T, Nat.le_refl _, by decide⟩ (fun x hx => ?_) (by omega)).mono ?_
  · injection hx with hx
    rw [← hx]
    simp
  · rintro e w' ⟨h1, h2, h3⟩
    exact ⟨h1, h2, (Fp.later hb h.low).trans h3⟩
theorem refEmit2 {Pr : Nat → Prop} (base g : Nat) (ts : List Tk) (σ : RS) (k : Nat) (lo hi a b : Int) (T : TypeId) (w : World) (B : Nat) (hB : B = w.heap.size) (h : RMemE Pr w base g ts σ) (hlow : Lw Pr w) (hk : k ≤ 100) (hs : small64 lo ∧ small64 hi) (ha : 0 ≤ a ∧ a ≤ 100000) (hb : 0 ≤ b ∧ b ≤ 100000) (hN : σ.nodes.length ≤ 60000) :
    Calls Tryz.prog 58 #[.pointer (some ⟨g, 0, none⟩), .agg #[.int .i64 k, .string ⟨#[]⟩, .int .i64 lo, .int .i64 hi, .slice (some ⟨B, 0, none⟩) 2 2]] (w.alloc (.cells #[.int .i64 a, .int .i64 b] T)) (EmitDone Pr base g ts σ (nd1 k lo hi [a, b]) w) := by
  subst hB
  have hbl : Below w.heap.size w (w.alloc (.cells #[.int .i64 a, .int .i64 b] T)) := (Below.refl _ _).alloc (Nat.le_refl _) _
  refine (refEmit base g ts σ (nd1 k lo hi [a, b]) (some ⟨w.heap.size, 0, none⟩) 2 2 w _ h hlow hbl rfl ⟨by show small64 (k : Int); unfold small64; omega, hs.1, hs.2, Nat.zero_le _, rd_two ha hb T, Nat.le_refl _, by decide⟩ (fun x hx => ?_) (by omega)).mono ?_
  · injection hx with hx
    rw [← hx]
    simp
  · rintro e w' ⟨h1, h2, h3⟩
    exact ⟨h1, h2, (Fp.later hbl h.low).trans h3⟩
theorem refEmit0 {Pr : Nat → Prop} (base g : Nat) (ts : List Tk) (σ : RS) (k : Nat) (nm : ByteArray) (w : World) (h : RMemE Pr w base g ts σ) (hlow : Lw Pr w) (hk : k ≤ 100) (hnm : nm.size ≤ maxLen) (hN : σ.nodes.length ≤ 60000) :
    Calls Tryz.prog 58 #[.pointer (some ⟨g, 0, none⟩), .agg #[.int .i64 k, .string nm, .int .i64 0, .int .i64 0, .slice none 0 0]] w (EmitDone Pr base g ts σ ⟨k, nm, 0, 0, []⟩ w) := by
  refine (refEmit base g ts σ ⟨k, nm, 0, 0, []⟩ none 0 0 w w h hlow (Below.refl _ _) rfl ⟨by show small64 (k : Int); unfold small64; omega, by show small64 0; unfold small64; decide, by show small64 0; unfold small64; decide, hnm, ⟨rfl, fun j hj => absurd hj (Nat.not_lt_zero _), fun h0 => absurd h0 (Nat.lt_irrefl _)⟩, Nat.le_refl _, by decide⟩ (fun x hx => by cases hx) (by omega)).mono ?_
  rintro e w' ⟨h1, h2, h3⟩
  exact ⟨h1, h2, h3⟩

set_option maxHeartbeats 8000000 in
theorem refRep (n : Nat) (H : Part 95 (.opd true) n) : Part 74 .rep n := by
  intro Pr base g ts σ w h hlow hr hn hl
  have HL := Lib.hid hl
  have HLO := Lib.hid hlow
  have HR := Lib.hid hr
  have HB := Lib.hid h.low
  have HONE := Lib.hid (H Pr base g ts σ w h hlow hr hn hl)
  clear h hlow hr hn hl
  go_enter Tryz.func74, Tryz.ntmps74
  go_wp2_with fail
  refine HONE.out.mono ?_
  rintro e w1 ⟨a0, σ1, rfl, hm1, hf1, hp1⟩
  have HM1 := Lib.hid hm1
  have HF1 := Lib.hid hf1
  have HP1 := Lib.hid hp1.startRep
  clear hm1 hf1 hp1
  go_wp2_with fail
  go_loopw [3] (fun av wr => ∃ (a : Int) (τ : RS), av = .int .i64 a ∧ Hid (RMemE Pr wr base g ts τ) ∧ Hid (Fp Pr base w wr) ∧ Hid (Loop .rep .stars σ τ a)) (fun _ wr => leftAt wr g ts.length)
  case atStart => exact ⟨a0, σ1, rfl, HM1.out, HF1.out, HP1.out⟩
  case round =>
    obtain ⟨a, τ, rfl, HM, HF, HLP⟩ := hrel
    have HSE := Lib.hid (refSeesU base g ts τ 3 [42] wr HM.out (HLP.out.some HR.out) HL.out)
    by_cases hs : seesB 3 [42] τ = true
    · rw [hs] at HSE
      have HRY := Lib.hid ((HLP.out.open (sees_yes hs).1).1.ready HR.out (HLP.out.open (sees_yes hs).1).2)
      have HRD := Lib.hid (stars_round HLP.out HR.out (sees_yes hs).1 (sees_yes hs).2)
      have HLE := Lib.hid (sees_yes hs).1
      have HAV := Lib.hid HLP.out.val
      clear hs
      go_wp2_with fail
      refine HSE.out.mono ?_
      rintro e w2 ⟨rfl, hb⟩
      have HM2 := Lib.hid (HM.out.later hb)
      have HF2 := Lib.hid (HF.out.trans (Fp.later hb HM.out.low))
      clear hb
      go_wp2_with fail
      refine (refMakesU base g ts τ true false (Or.inl rfl) _ HM2.out HRY.out.make HL.out).mono ?_
      rintro e w3 ⟨rfl, hm, hgr⟩
      have HM3 := Lib.hid hm
      have HF3 := Lib.hid (HF2.out.trans (HM2.out.fp hgr))
      clear hm hgr
      go_wp2_with fail
      refine (refEmit1 base g ts (makesF true false τ) 22 0 0 a _ w3 _ rfl HM3.out (HLO.out.mono HF3.out.below.size) (by decide) ⟨by unfold small64; decide, by unfold small64; decide⟩ HAV.out (by have := HRD.out.2.1; omega)).mono ?_
      rintro e w4 ⟨rfl, hm, hf⟩
      have HM4 := Lib.hid hm
      have HF4 := Lib.hid (HF3.out.trans hf)
      clear hm hf
      go_wp2_with fail
      go_roundw
      case rel => exact ⟨_, _, rfl, HM4.out, HF4.out, HRD.out.1⟩
      case measure =>
        rw [HM4.out.left, HM.out.left, if_pos HLE.out]
        split
        · next he => have := HRD.out.2.2 he; show (makesF true false τ).rest.length + 1 < _; omega
        · omega
    · have HST := Lib.hid (HLP.out.stop (fun he d => D.starsEnd (s := ⟨τ.rest, τ.made, τ.nodes⟩) (by
        have h1 := HLP.out.open he
        rw [Bool.not_eq_true, sees_sign he h1.1.good (by decide), decide_eq_false_iff_not] at hs
        exact hs)))
      rw [Bool.not_eq_true] at hs
      rw [hs] at HSE
      clear hs
      go_wp2_with fail
      refine HSE.out.mono ?_
      rintro e w2 ⟨rfl, hb⟩
      have HM2 := Lib.hid (HM.out.later hb)
      have HF2 := Lib.hid (HF.out.trans (Fp.later hb HM.out.low))
      clear hb
      go_wp2_with fail
      go_ret
      exact ⟨a, τ, rfl, HM2.out, HF2.out, HST.out⟩
end Go.Proofs.YtnoghlhggeffnaaGreatDoor.Parse
