/-
  The walks of the landed reader's behind and step. By an AI agent.
-/
import Derived.Test.YtbehlceacgaebaaParseFit
namespace Go.Proofs.Ytbehlceacgaebaa.Parse
open Go.RowKit Go.Proofs.Ytbehlceacgaebaa.Ints Go.Proofs.Ytbehlceacgaebaa.Lex Go.Proofs.Ytbehlceacgaebaa.Tree

set_option maxHeartbeats 16000000 in
theorem landBehind (base g M : Nat) (ts : List Tk) (σ : PS) (w : World) (h : PMemE (Aw none) w base g ts σ) (hf : Fit M 1 σ) (hM : M ≤ 5000) (hl : ts.length ≤ 5000) :
    Calls Try.prog 43 #[.pointer (some ⟨g, 0, none⟩)] w (StepGot base g ts w (behindM σ)) := by
  have HM := Lib.hid h
  have HF := Lib.hid hf
  have HL := Lib.hid (And.intro hM hl)
  obtain ⟨t, r, hr, htk, -, ht16, -⟩ := hf.toks.split
  have HR := Lib.hid hr
  have HKN := Lib.hid (fun (hne : textOf σ.rest ≠ []) => kind_end hf.toks.allOk hne)
  have htx : textOf σ.rest = t.text := by rw [hr]; rfl
  have HTX := Lib.hid htx
  obtain ⟨y, K, hy⟩ := hf.good.split
  have HY := Lib.hid hy
  have hKl : K.length ≤ 5000 := by have := hf.good.size; rw [hy, List.length_cons] at this; omega
  have HK := Lib.hid hKl
  have hyr : (topE σ.opn).reg = y.reg := by rw [hy]; rfl
  have q1 := fieldT1 t.kind (Lex.bytes t.text) t.num t.pos
  have q5 := fieldE5 y.kind y.lo y.hi y.kids y.level (Lex.bytes y.closer) y.reg y.depth
  have f0 := bytes_is t.text [42]
  have HBT := Lib.hid (fun W => landBetween y.reg t.text W)
  obtain ⟨z, hz⟩ : ∃ z, Lex.bytes t.text = z := ⟨_, rfl⟩
  rw [hz] at f0 q1 HBT
  have HZ := Lib.hid hz
  obtain ⟨b, hb⟩ : ∃ b, y.reg = b := ⟨_, rfl⟩
  rw [hb] at q5 HBT hyr
  have HBB := Lib.hid hb
  obtain ⟨k, hk⟩ : ∃ k, (betwK b t.text).1 = k := ⟨_, rfl⟩
  obtain ⟨lev, hlev⟩ : ∃ lev, (betwK b t.text).2 = lev := ⟨_, rfl⟩
  rw [hk, hlev] at HBT
  have hE0 : behindM σ = (if k ≠ 0 then operatorM k lev σ else if b = true ∧ t.text = [42] then starM σ else shutM σ) := by
    unfold behindM
    simp only
    rw [hyr, htx, hk, hlev]
  by_cases hk0 : k = 0
  · have hkb : ((k : Int) != 0) = false := by rw [hk0]; rfl
    rw [if_neg (fun h => h hk0)] at hE0
    by_cases hst : b = true ∧ t.text = [42]
    · rw [if_pos hst] at hE0
      have HE := Lib.hid hE0
      have HT := Lib.hid hst.2
      rw [decide_eq_true hst.2] at f0
      obtain ⟨rfl, -⟩ := hst
      clear h hf hM hl hr htk ht16 htx hy hKl hyr hz hk hlev hE0 hk0 hb
      go_enter Try.func43, Try.ntmps43
      go_wp2_with fail
      have htok := landTok base g ts σ t r _ HM.out HR.out HL.out.2
      rw [HZ.out] at htok
      refine htok.mono ?_
      rintro e w1 ⟨rfl, hb1⟩
      have HM1 := Lib.hid (HM.out.later hb1)
      have HF1 := Lib.hid (Fr.later (bx := none) hb1 HM.out.base)
      clear hb1 htok
      go_wp2_with fail
      have htop := landTop base g ts σ y K _ HM1.out HY.out (by have := HK.out; omega)
      rw [HBB.out] at htop
      refine htop.mono ?_
      rintro e w2 ⟨rfl, hb2⟩
      have HM2 := Lib.hid (HM1.out.later hb2)
      have HF2 := Lib.hid (HF1.out.trans (Fr.later hb2 HM1.out.base))
      clear hb2 htop
      go_wp2_with fail
      refine (HBT.out _).mono ?_
      rintro e w3 ⟨rfl, rfl⟩
      go_wp2_with fail
      refine (landStar base g M ts σ _ HM2.out HF.out HL.out.1 HL.out.2 (HKN.out (by rw [HTX.out, HT.out]; decide))).mono ?_
      intro e w9 h9
      obtain ⟨c, rfl⟩ := h9.val
      have H9 := Lib.hid (h9.trans HF2.out)
      clear h9
      go_wp2_with fail
      go_ret
      rw [HE.out]
      exact H9.out
    · rw [if_neg hst] at hE0
      have HE := Lib.hid hE0
      rcases hbb : b with _ | _
      · subst hbb
        clear h hf hM hl hr htk ht16 htx hy hKl hyr hz hk hlev hE0 hk0 hb hst
        go_enter Try.func43, Try.ntmps43
        go_wp2_with fail
        have htok := landTok base g ts σ t r _ HM.out HR.out HL.out.2
        rw [HZ.out] at htok
        refine htok.mono ?_
        rintro e w1 ⟨rfl, hb1⟩
        have HM1 := Lib.hid (HM.out.later hb1)
        have HF1 := Lib.hid (Fr.later (bx := none) hb1 HM.out.base)
        clear hb1 htok
        go_wp2_with fail
        have htop := landTop base g ts σ y K _ HM1.out HY.out (by have := HK.out; omega)
        rw [HBB.out] at htop
        refine htop.mono ?_
        rintro e w2 ⟨rfl, hb2⟩
        have HM2 := Lib.hid (HM1.out.later hb2)
        have HF2 := Lib.hid (HF1.out.trans (Fr.later hb2 HM1.out.base))
        clear hb2 htop
        go_wp2_with fail
        refine (HBT.out _).mono ?_
        rintro e w3 ⟨rfl, rfl⟩
        go_wp2_with fail
        refine (landShut base g M ts σ _ HM2.out HF.out HL.out.1 HL.out.2).mono ?_
        intro e w9 h9
        obtain ⟨c, rfl⟩ := h9.val
        have H9 := Lib.hid (h9.trans HF2.out)
        clear h9
        go_wp2_with fail
        go_ret
        rw [HE.out]
        exact H9.out
      · subst hbb
        rw [decide_eq_false (fun e => hst ⟨rfl, e⟩)] at f0
        clear h hf hM hl hr htk ht16 htx hy hKl hyr hz hk hlev hE0 hk0 hb hst
        go_enter Try.func43, Try.ntmps43
        go_wp2_with fail
        have htok := landTok base g ts σ t r _ HM.out HR.out HL.out.2
        rw [HZ.out] at htok
        refine htok.mono ?_
        rintro e w1 ⟨rfl, hb1⟩
        have HM1 := Lib.hid (HM.out.later hb1)
        have HF1 := Lib.hid (Fr.later (bx := none) hb1 HM.out.base)
        clear hb1 htok
        go_wp2_with fail
        have htop := landTop base g ts σ y K _ HM1.out HY.out (by have := HK.out; omega)
        rw [HBB.out] at htop
        refine htop.mono ?_
        rintro e w2 ⟨rfl, hb2⟩
        have HM2 := Lib.hid (HM1.out.later hb2)
        have HF2 := Lib.hid (HF1.out.trans (Fr.later hb2 HM1.out.base))
        clear hb2 htop
        go_wp2_with fail
        refine (HBT.out _).mono ?_
        rintro e w3 ⟨rfl, rfl⟩
        go_wp2_with fail
        refine (landShut base g M ts σ _ HM2.out HF.out HL.out.1 HL.out.2).mono ?_
        intro e w9 h9
        obtain ⟨c, rfl⟩ := h9.val
        have H9 := Lib.hid (h9.trans HF2.out)
        clear h9
        go_wp2_with fail
        go_ret
        rw [HE.out]
        exact H9.out
  · have hkb : ((k : Int) != 0) = true := by simp; omega
    rw [if_pos hk0] at hE0
    have HE := Lib.hid hE0
    have HBK := Lib.hid (show (betwK b t.text).1 ≠ 0 by rw [hk]; exact hk0)
    have HLV := Lib.hid (show 1 ≤ lev by have := betw_range (g := b) (t := t.text); omega)
    clear h hf hM hl hr htk ht16 htx hy hKl hyr hz hk hlev hE0 hk0 hb f0
    go_enter Try.func43, Try.ntmps43
    go_wp2_with fail
    have htok := landTok base g ts σ t r _ HM.out HR.out HL.out.2
    rw [HZ.out] at htok
    refine htok.mono ?_
    rintro e w1 ⟨rfl, hb1⟩
    have HM1 := Lib.hid (HM.out.later hb1)
    have HF1 := Lib.hid (Fr.later (bx := none) hb1 HM.out.base)
    clear hb1 htok
    go_wp2_with fail
    have htop := landTop base g ts σ y K _ HM1.out HY.out (by have := HK.out; omega)
    rw [HBB.out] at htop
    refine htop.mono ?_
    rintro e w2 ⟨rfl, hb2⟩
    have HM2 := Lib.hid (HM1.out.later hb2)
    have HF2 := Lib.hid (HF1.out.trans (Fr.later hb2 HM1.out.base))
    clear hb2 htop
    go_wp2_with fail
    refine (HBT.out _).mono ?_
    rintro e w3 ⟨rfl, rfl⟩
    go_wp2_with fail
    refine (landOper base g M ts σ k lev _ HM2.out HF.out HL.out.1 HL.out.2 (HKN.out (by rw [HTX.out]; exact (betw_text HBK.out).1)) HLV.out).mono ?_
    intro e w9 h9
    obtain ⟨c, rfl⟩ := h9.val
    have H9 := Lib.hid (h9.trans HF2.out)
    clear h9
    go_wp2_with fail
    go_ret
    rw [HE.out]
    exact H9.out

set_option maxHeartbeats 8000000 in
theorem landStep (base g M : Nat) (ts : List Tk) (σ : PS) (w : World) (h : PMemE (Aw none) w base g ts σ) (hf : Fit M (eOf σ) σ) (hM : M ≤ 5000) (hl : ts.length ≤ 5000) :
    Calls Try.prog 24 #[.pointer (some ⟨g, 0, none⟩)] w (StepGot base g ts w (stepM σ)) := by
  have HM := Lib.hid h
  have HF := Lib.hid hf
  have HL := Lib.hid (And.intro hM hl)
  have hc2 : w.cell? ⟨g, 2, none⟩ = some (.bool σ.ended) := by obtain ⟨tv, ov, nv, rv, SN, h⟩ := h; exact h.blk.cell 2 rfl
  rcases he : σ.ended with _ | _
  · rw [he] at hc2
    obtain ⟨y, K, hy⟩ := hf.good.split
    have HY := Lib.hid hy
    have hKl : K.length ≤ 5000 := by have := hf.good.size; rw [hy, List.length_cons] at this; omega
    have HK := Lib.hid hKl
    have HF0 := Lib.hid (show Fit M 0 σ by have := hf; unfold eOf at this; rw [if_neg (by rw [he]; decide)] at this; exact this)
    have HE := Lib.hid (show stepM σ = beginM y.reg σ by unfold stepM; rw [if_neg (by rw [he]; decide), hy]; rfl)
    have q5 := fieldE5 y.kind y.lo y.hi y.kids y.level (Lex.bytes y.closer) y.reg y.depth
    rcases hyr : y.reg with _ | _
    all_goals
      have HYR := Lib.hid hyr
      rw [hyr] at HE q5
      clear h hf hM hl he hy hKl hyr
      go_enter Try.func24, Try.ntmps24
      go_wp2_with fail
      have htop := landTop base g ts σ y K _ HM.out HY.out (by have := HK.out; omega)
      rw [HYR.out] at htop
      refine htop.mono ?_
      rintro e w2 ⟨rfl, hb2⟩
      have HM2 := Lib.hid (HM.out.later hb2)
      have HF2 := Lib.hid (Fr.later (bx := none) hb2 HM.out.base)
      clear hb2 htop
      go_wp2_with fail
      first
        | refine (landBeginForm base g M ts σ _ HM2.out HF0.out HL.out.1 HL.out.2).mono ?_
        | refine (landBeginReg base g M ts σ _ HM2.out HF0.out HL.out.1 HL.out.2).mono ?_
      intro e w9 h9
      obtain ⟨c, rfl⟩ := h9.val
      have H9 := Lib.hid (h9.trans HF2.out)
      clear h9
      go_wp2_with fail
      go_ret
      rw [HE.out]
      exact H9.out
  · rw [he] at hc2
    have HF1 := Lib.hid (show Fit M 1 σ by have := hf; unfold eOf at this; rw [if_pos he] at this; exact this)
    have HE := Lib.hid (show stepM σ = behindM σ by unfold stepM; rw [if_pos he])
    clear h hf hM hl he
    go_enter Try.func24, Try.ntmps24
    go_wp2_with fail
    refine (landBehind base g M ts σ _ HM.out HF1.out HL.out.1 HL.out.2).mono ?_
    intro e w9 h9
    obtain ⟨c, rfl⟩ := h9.val
    have H9 := Lib.hid h9
    clear h9
    go_wp2_with fail
    go_ret
    rw [HE.out]
    exact H9.out
end Go.Proofs.Ytbehlceacgaebaa.Parse
