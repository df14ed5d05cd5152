/-
  The walk of the landed reader's shut. By an AI agent.
-/
import Derived.Test.YtbehlceacgaebaaParseBraces
namespace Go.Proofs.Ytbehlceacgaebaa.Parse
open Go.RowKit Go.Proofs.Ytbehlceacgaebaa.Ints Go.Proofs.Ytbehlceacgaebaa.Lex Go.Proofs.Ytbehlceacgaebaa.Tree

set_option maxHeartbeats 16000000 in
set_option maxRecDepth 100000 in
theorem landShut (base g M : Nat) (ts : List Tk) (σ : PS) (w : World) (h : PMemE (Aw none) w base g ts σ) (hf : Fit M 1 σ) (hM : M ≤ 5000) (hl : ts.length ≤ 5000) :
    Calls Try.prog 56 #[.pointer (some ⟨g, 0, none⟩)] w (StepGot base g ts w (shutM σ)) := by
  have HM := Lib.hid h
  have HF := Lib.hid hf
  have HL := Lib.hid (And.intro hM hl)
  obtain ⟨t, r, hr, htk, -, -, -⟩ := hf.toks.split
  have HFIN := Lib.hid (landFinish none base g M ts σ 1 w (low_none _) h hf.good hM (Nat.le_refl _))
  have HGF := Lib.hid (fin_good (Nat.le_refl 1) _ σ rfl hf.good)
  have hrest := (finM_rest 1 σ).1
  have HE := Lib.hid (show shutM σ = (if kindOf (finM 1 σ).rest ≠ 3 ∨ textOf (finM 1 σ).rest ≠ (topE (finM 1 σ).opn).closer then .error (2, posOf (finM 1 σ).rest) else .ok (endM (popM (next (finM 1 σ))))) from rfl)
  obtain ⟨τ, hτ⟩ : ∃ τ, finM 1 σ = τ := ⟨_, rfl⟩
  rw [hτ] at HFIN HGF HE hrest
  obtain ⟨y, K, hy⟩ := HGF.out.split
  have HY := Lib.hid hy
  have hKl : K.length ≤ 5000 := by have := HGF.out.size; rw [hy, List.length_cons] at this; omega
  have HK := Lib.hid hKl
  have hr2 : τ.rest = t :: r := hrest.trans hr
  have HR := Lib.hid hr2
  have HT := Lib.hid htk
  have hE2 := HE.out
  rw [hr2, hy] at hE2
  have q0 := fieldT0 t.kind (Lex.bytes t.text) t.num t.pos
  have q1 := fieldT1 t.kind (Lex.bytes t.text) t.num t.pos
  have q4 := fieldE4 y.kind y.lo y.hi y.kids y.level (Lex.bytes y.closer) y.reg y.depth
  have hcmp := bytes_cmp t.text y.closer
  by_cases h3 : t.kind = 3
  · have h3b : ((t.kind : Int) != 3) = false := by rw [h3]; rfl
    by_cases hc : t.text = y.closer
    · rw [decide_eq_true hc] at hcmp
      rw [if_neg (by rintro (h | h); exact h h3; exact h hc)] at hE2
      have HE2 := Lib.hid hE2
      have HGR := Lib.hid (show GoodT r by have := hf.toks.tail (by rw [hr]; show t.kind ≠ 0; omega); rw [hr] at this; exact this)
      have hab := HGF.out.above hy (fun e => by
        have hcl : y.closer = [] := by rw [e]; rfl
        rcases htk with ⟨-, c, r', h4, -⟩ | ⟨h4, -⟩ | ⟨h4, -⟩
        · rw [hc, hcl] at h4; cases h4
        · omega
        · omega)
      have HAB := Lib.hid hab
      obtain ⟨z1, hz1⟩ : ∃ z, Lex.bytes t.text = z := ⟨_, rfl⟩
      obtain ⟨z2, hz2⟩ : ∃ z, Lex.bytes y.closer = z := ⟨_, rfl⟩
      rw [hz1, hz2] at hcmp
      rw [hz1] at q0 q1
      rw [hz2] at q4
      have HZ := Lib.hid (And.intro hz1 hz2)
      clear h hf hM hl hr htk hrest hτ hy hKl hr2 hE2 h3 hc hab hz1 hz2
      go_enter Try.func56, Try.ntmps56
      go_wp2_with fail
      refine HFIN.out.mono ?_
      rintro e w1 ⟨rfl, hm1, hf1⟩
      have HM1 := Lib.hid hm1
      have HF1 := Lib.hid hf1
      clear hm1 hf1
      go_wp2_with fail
      have htok := landTok base g ts τ t r _ HM1.out HR.out HL.out.2
      rw [HZ.out.1] at htok
      refine htok.mono ?_
      rintro e w2 ⟨rfl, hb2⟩
      have HM2 := Lib.hid (HM1.out.later hb2)
      have HF2 := Lib.hid (HF1.out.trans (Fr.later hb2 HM1.out.base))
      clear hb2 htok
      go_wp2_with fail
      have htok := landTok base g ts τ t r _ HM2.out HR.out HL.out.2
      rw [HZ.out.1] at htok
      refine htok.mono ?_
      rintro e w3 ⟨rfl, hb3⟩
      have HM3 := Lib.hid (HM2.out.later hb3)
      have HF3 := Lib.hid (HF2.out.trans (Fr.later hb3 HM2.out.base))
      clear hb3 htok
      go_wp2_with fail
      have htop := landTop base g ts τ y K _ HM3.out HY.out (by have := HK.out; omega)
      rw [HZ.out.2] at htop
      refine htop.mono ?_
      rintro e w4 ⟨rfl, hb4⟩
      obtain ⟨tv, ov, nv, rv, SN, hm4⟩ := HM3.out.later hb4
      have hf4 := HF3.out.trans (Fr.later hb4 HM3.out.base)
      obtain ⟨j, hj⟩ : ∃ j, ts.length - τ.rest.length = j := ⟨_, rfl⟩
      have c1 := hm4.blk.cell 1 rfl
      have f1 := hm4.blk.fz 1 rfl
      rw [hj] at c1
      have hj5 : (j : Int) ≤ 5000 := by have := HL.out.2; omega
      have hj0 : (0 : Int) ≤ (j : Int) := by omega
      have HM5 := Lib.hid (hm4.next HR.out hj)
      have HF5 := Lib.hid (hf4.setCell (p := ⟨g, 1, none⟩) HM.out.hg.1 (fun e => by cases e) (.int .i64 ((j : Int) + 1)))
      clear hm4 hf4 hb4 hj htop
      go_wp2_with fail
      refine (landPop none base g M ts { τ with rest := r } y K _ (low_none _) ⟨_, _, _, _, _, HM5.out⟩ (next_ok HGF.out HR.out _) HL.out.1 HY.out).mono ?_
      rintro e w6 ⟨rfl, hm6, hf6⟩
      have HM6 := Lib.hid hm6
      have HF6 := Lib.hid (HF5.out.trans hf6)
      clear hm6 hf6 c1 f1
      go_wp2_with fail
      refine (landEnd none base g M ts _ _ (low_none _) HM6.out (pop_good (next_ok HGF.out HR.out _) HY.out HAB.out) HL.out.1).mono ?_
      rintro e w7 ⟨rfl, hm7, hf7⟩
      go_wp2_with fail
      go_ret
      have hE := HE.out
      rw [hE, ← hE, HE2.out]
      have hnx : next τ = { τ with rest := r } := by unfold next; rw [HR.out]; rfl
      rw [hnx]
      exact ⟨rfl, hm7, HF6.out.trans hf7⟩
    · rw [decide_eq_false hc] at hcmp
      have HE2 := Lib.hid (hE2.trans (if_pos (Or.inr hc)))
      have HG := Lib.hid (show GoodT τ.rest by rw [hrest]; exact hf.toks)
      obtain ⟨z1, hz1⟩ : ∃ z, Lex.bytes t.text = z := ⟨_, rfl⟩
      obtain ⟨z2, hz2⟩ : ∃ z, Lex.bytes y.closer = z := ⟨_, rfl⟩
      rw [hz1, hz2] at hcmp
      rw [hz1] at q0 q1
      rw [hz2] at q4
      have HZ := Lib.hid (And.intro hz1 hz2)
      clear h hf hM hl hr htk hrest hτ hy hKl hr2 hE2 h3 hc hz1 hz2
      go_enter Try.func56, Try.ntmps56
      go_wp2_with fail
      refine HFIN.out.mono ?_
      rintro e w1 ⟨rfl, hm1, hf1⟩
      have HM1 := Lib.hid hm1
      have HF1 := Lib.hid hf1
      clear hm1 hf1
      go_wp2_with fail
      have htok := landTok base g ts τ t r _ HM1.out HR.out HL.out.2
      rw [HZ.out.1] at htok
      refine htok.mono ?_
      rintro e w2 ⟨rfl, hb2⟩
      have HM2 := Lib.hid (HM1.out.later hb2)
      have HF2 := Lib.hid (HF1.out.trans (Fr.later hb2 HM1.out.base))
      clear hb2 htok
      go_wp2_with fail
      have htok := landTok base g ts τ t r _ HM2.out HR.out HL.out.2
      rw [HZ.out.1] at htok
      refine htok.mono ?_
      rintro e w3 ⟨rfl, hb3⟩
      have HM3 := Lib.hid (HM2.out.later hb3)
      have HF3 := Lib.hid (HF2.out.trans (Fr.later hb3 HM2.out.base))
      clear hb3 htok
      go_wp2_with fail
      have htop := landTop base g ts τ y K _ HM3.out HY.out (by have := HK.out; omega)
      rw [HZ.out.2] at htop
      refine htop.mono ?_
      rintro e w4 ⟨rfl, hb4⟩
      have HM4 := Lib.hid (HM3.out.later hb4)
      have HF4 := Lib.hid (HF3.out.trans (Fr.later hb4 HM3.out.base))
      clear hb4 htop
      go_wp2_with fail
      go_ret
      have hE := HE.out
      rw [hE, ← hE, HE2.out]
      exact StepGot.bad (τ := τ) (by decide) HG.out (by rw [HR.out]) HM4.out HF4.out
  · have h3b : ((t.kind : Int) != 3) = true := by simp; omega
    have HE2 := Lib.hid (hE2.trans (if_pos (Or.inl h3)))
    have HG := Lib.hid (show GoodT τ.rest by rw [hrest]; exact hf.toks)
    clear h hf hM hl hr htk hrest hτ hy hKl hr2 hE2 h3 hcmp q1 q4
    go_enter Try.func56, Try.ntmps56
    go_wp2_with fail
    refine HFIN.out.mono ?_
    rintro e w1 ⟨rfl, hm1, hf1⟩
    have HM1 := Lib.hid hm1
    have HF1 := Lib.hid hf1
    clear hm1 hf1
    go_wp2_with fail
    refine (landTok base g ts τ t r _ HM1.out HR.out HL.out.2).mono ?_
    rintro e w2 ⟨rfl, hb2⟩
    have HM2 := Lib.hid (HM1.out.later hb2)
    have HF2 := Lib.hid (HF1.out.trans (Fr.later hb2 HM1.out.base))
    clear hb2
    go_wp2_with fail
    go_ret
    have hE := HE.out
    rw [hE, ← hE, HE2.out]
    exact StepGot.bad (τ := τ) (by decide) HG.out (by rw [HR.out]) HM2.out HF2.out
end Go.Proofs.Ytbehlceacgaebaa.Parse
