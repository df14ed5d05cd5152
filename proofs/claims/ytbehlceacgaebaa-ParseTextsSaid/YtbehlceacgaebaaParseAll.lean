/-
  The walk of the landed reader's all. By an AI agent.
-/
import Derived.Test.YtbehlceacgaebaaParseStep2
namespace Go.Proofs.Ytbehlceacgaebaa.Parse
open Go.RowKit Go.Proofs.Ytbehlceacgaebaa.Ints Go.Proofs.Ytbehlceacgaebaa.Lex Go.Proofs.Ytbehlceacgaebaa.Tree

/-- Where the reader stands, as memory has it. -/
def atAt (w : World) (g : Nat) : Nat := match w.cell? ⟨g, 1, none⟩ with
  | some (.int _ z) => z.toNat
  | _ => 0
theorem PMemE.at {S : Nat → Prop} {w : World} {base g : Nat} {ts : List Tk} {σ : PS} (h : PMemE S w base g ts σ) : atAt w g = ts.length - σ.rest.length ∧ σ.rest.length ≤ ts.length := by
  obtain ⟨tv, ov, nv, rv, SN, h⟩ := h
  refine ⟨?_, h.suf.length_le⟩
  unfold atAt
  rw [h.blk.cell 1 rfl]
  rfl
theorem PMemE.open4 {S : Nat → Prop} {w : World} {base g : Nat} {ts : List Tk} {σ : PS} (h : PMemE S w base g ts σ) : ∃ A c, w.cell? ⟨g, 4, none⟩ = some (.slice A σ.opn.length c) := by
  obtain ⟨tv, ov, nv, rv, SN, h⟩ := h
  obtain ⟨A, c, rfl, -⟩ := own_sliceN h.opn
  exact ⟨A, c, h.blk.cell 4 rfl⟩
theorem step_run {σ τ : PS} {M : Nat} (hf : Fit M (eOf σ) σ) (hn : ¬ stops σ) (hs : stepM σ = .ok τ) : runM τ = runM σ ∧ τ.rest.length < σ.rest.length := ⟨(run_go hf.toks.allOk hn hs).symm, (step_ok hf.toks.allOk hs).2⟩

set_option maxHeartbeats 16000000 in
theorem landAll (base g M : Nat) (ts : List Tk) (σ : PS) (w : World) (h : PMemE (Aw none) w base g ts σ) (hf : Fit M (eOf σ) σ) (hM : M ≤ 5000) (hl : ts.length ≤ 5000) :
    Calls Try.prog 15 #[.pointer (some ⟨g, 0, none⟩)] w (StepGot base g ts w (runW σ)) := by
  have HM := Lib.hid h
  have HF := Lib.hid hf
  have HL := Lib.hid (And.intro hM hl)
  clear h hf hM hl
  go_enter Try.func15, Try.ntmps15
  go_wp2_with fail
  go_loopw [] (fun wr => ∃ τ, Hid (runM τ = runM σ) ∧ Hid (Fit M (eOf τ) τ) ∧ Hid (PMemE (Aw none) wr base g ts τ) ∧ Hid (Fr none base w wr)) (fun wr => ts.length - atAt wr g)
  case atStart => exact ⟨σ, rfl, HF.out, HM.out, Fr.refl _ _ _⟩
  case round =>
    obtain ⟨τ, HRUN, HFT, HMT, HFR⟩ := hrel
    have hc2 : wr.cell? ⟨g, 2, none⟩ = some (.bool τ.ended) := by obtain ⟨tv, ov, nv, rv, SN, h⟩ := HMT.out; exact h.blk.cell 2 rfl
    obtain ⟨t, r, hr, -, -, -, -⟩ := HFT.out.toks.split
    have HR := Lib.hid hr
    have q0 := fieldT0 t.kind (Lex.bytes t.text) t.num t.pos
    rcases he : τ.ended with _ | _
    · rw [he] at hc2
      have HNS := Lib.hid (show ¬ stops τ from fun hs => by rw [hs.1] at he; cases he)
      clear hr he
      go_wp2_with fail
      refine (landStep base g M ts τ _ HMT.out HFT.out HL.out.1 HL.out.2).mono ?_
      intro e w2 h2
      rcases hs : stepM τ with ⟨c, p⟩ | τ'
      · rw [hs] at h2
        obtain ⟨hc0, rfl, hex, hf2⟩ := h2
        have hcn : ((c : Int) != 0) = true := by simp; omega
        have HRE := Lib.hid (show runW σ = .error (c, p) by unfold runW; rw [← HRUN.out, run_err HNS.out hs]; rfl)
        have HEX := Lib.hid hex
        have HF2 := Lib.hid (HFR.out.trans hf2)
        have HC0 := Lib.hid hc0
        clear hex hf2 hs hc0
        go_wp2_with fail
        go_ret
        rw [HRE.out]
        exact ⟨HC0.out, rfl, HEX.out, HF2.out⟩
      · rw [hs] at h2
        obtain ⟨rfl, hm2, hf2⟩ := h2
        obtain ⟨h5, h6⟩ := step_run HFT.out HNS.out hs
        have HRUN2 := Lib.hid (h5.trans HRUN.out)
        have HFT2 := Lib.hid (step_fit HFT.out hs)
        have HMT2 := Lib.hid hm2
        have HFR2 := Lib.hid (HFR.out.trans hf2)
        have HLT := Lib.hid h6
        clear h5 h6 hm2 hf2 hs
        go_wp2_with fail
        go_roundw
        case rel => exact ⟨τ', HRUN2, HFT2, HMT2, HFR2⟩
        case measure =>
          have h1 := HMT.out.at
          have h2 := HMT2.out.at
          have h3 := HLT.out
          rw [h1.1, h2.1]
          omega
    · rw [he] at hc2
      by_cases hk : t.kind = 0
      · have hk0 : ((t.kind : Int) != 0) = false := by rw [hk]; rfl
        have hst : stops τ := ⟨he, by rw [hr]; exact hk⟩
        have HST := Lib.hid hst
        have HF1 := Lib.hid (show Fit M 1 τ by have := HFT.out; unfold eOf at this; rw [if_pos he] at this; exact this)
        have HRE := Lib.hid (show runW σ = (if 1 < (finM 1 τ).opn.length then .error (2, posOf (finM 1 τ).rest) else .ok (finM 1 τ)) by unfold runW; rw [← HRUN.out, run_stop hst]; rfl)
        clear hr he hk hst
        go_wp2_with fail
        refine (landTok base g ts τ t r _ HMT.out HR.out HL.out.2).mono ?_
        rintro e w2 ⟨rfl, hb2⟩
        have HM2 := Lib.hid (HMT.out.later hb2)
        have HF2 := Lib.hid (HFR.out.trans (Fr.later hb2 HMT.out.base))
        clear hb2
        go_wp2_with fail
        refine (landFinish none base g M ts τ 1 _ (low_none _) HM2.out HF1.out.good HL.out.1 (Nat.le_refl _)).mono ?_
        rintro e w3 ⟨rfl, hm3, hf3⟩
        have HM3 := Lib.hid hm3
        have HF3 := Lib.hid (HF2.out.trans hf3)
        have HG3 := Lib.hid (show GoodT (finM 1 τ).rest by rw [(finM_rest 1 τ).1]; exact HF1.out.toks)
        obtain ⟨A, c, hc4⟩ := hm3.open4
        obtain ⟨n, hn⟩ : ∃ n, (finM 1 τ).opn.length = n := ⟨_, rfl⟩
        rw [hn] at hc4 HRE
        clear hm3 hf3 hn
        by_cases h1 : 1 < n
        · have hi : (1 : Int) < (n : Int) := by omega
          have hd : decide (1 < n) = true := decide_eq_true h1
          rw [if_pos h1] at HRE
          clear h1
          go_wp2_with fail
          go_ret
          rw [HRE.out]
          exact StepGot.bad (by decide) HG3.out rfl HM3.out HF3.out
        · have hi : decide ((1 : Int) < (n : Int)) = false := decide_eq_false (by omega)
          have hd : decide (1 < n) = false := decide_eq_false h1
          rw [if_neg h1] at HRE
          clear h1
          go_wp2_with fail
          go_ret
          rw [HRE.out]
          exact ⟨rfl, HM3.out, HF3.out⟩
      · have hk0 : ((t.kind : Int) != 0) = true := by simp; omega
        have HNS := Lib.hid (show ¬ stops τ from fun hs => hk (by have := hs.2; rw [hr] at this; exact this))
        clear hr he hk
        go_wp2_with fail
        refine (landTok base g ts τ t r _ HMT.out HR.out HL.out.2).mono ?_
        rintro e w1 ⟨rfl, hb1⟩
        have HM1 := Lib.hid (HMT.out.later hb1)
        have HFR1 := Lib.hid (HFR.out.trans (Fr.later hb1 HMT.out.base))
        clear hb1
        go_wp2_with fail
        refine (landStep base g M ts τ _ HM1.out HFT.out HL.out.1 HL.out.2).mono ?_
        intro e w2 h2
        rcases hs : stepM τ with ⟨c, p⟩ | τ'
        · rw [hs] at h2
          obtain ⟨hc0, rfl, hex, hf2⟩ := h2
          have hcn : ((c : Int) != 0) = true := by simp; omega
          have HRE := Lib.hid (show runW σ = .error (c, p) by unfold runW; rw [← HRUN.out, run_err HNS.out hs]; rfl)
          have HEX := Lib.hid hex
          have HF2 := Lib.hid (HFR1.out.trans hf2)
          have HC0 := Lib.hid hc0
          clear hex hf2 hs hc0
          go_wp2_with fail
          go_ret
          rw [HRE.out]
          exact ⟨HC0.out, rfl, HEX.out, HF2.out⟩
        · rw [hs] at h2
          obtain ⟨rfl, hm2, hf2⟩ := h2
          obtain ⟨h5, h6⟩ := step_run HFT.out HNS.out hs
          have HRUN2 := Lib.hid (h5.trans HRUN.out)
          have HFT2 := Lib.hid (step_fit HFT.out hs)
          have HMT2 := Lib.hid hm2
          have HFR2 := Lib.hid (HFR1.out.trans hf2)
          have HLT := Lib.hid h6
          clear h5 h6 hm2 hf2 hs
          go_wp2_with fail
          go_roundw
          case rel => exact ⟨τ', HRUN2, HFT2, HMT2, HFR2⟩
          case measure =>
            have h1 := HMT.out.at
            have h2 := HMT2.out.at
            have h3 := HLT.out
            rw [h1.1, h2.1]
            omega
end Go.Proofs.Ytbehlceacgaebaa.Parse
