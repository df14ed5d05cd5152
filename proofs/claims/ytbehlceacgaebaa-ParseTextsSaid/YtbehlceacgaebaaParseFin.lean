/-
  The walks of the landed reader's finish and end. By an AI agent.
-/
import Derived.Test.YtbehlceacgaebaaParsePop
import Derived.Test.YtbehlceacgaebaaParseSim
namespace Go.Proofs.Ytbehlceacgaebaa.Parse
open Go.RowKit Go.Proofs.Ytbehlceacgaebaa.Ints Go.Proofs.Ytbehlceacgaebaa.Lex Go.Proofs.Ytbehlceacgaebaa.Tree

/-- How much is open, as memory has it. -/
def lenAt (w : World) (g : Nat) : Nat := match w.cell? ⟨g, 4, none⟩ with
  | some (.slice _ n _) => n
  | _ => 0
theorem PMemE.len {S : Nat → Prop} {w : World} {base g : Nat} {ts : List Tk} {σ : PS} (h : PMemE S w base g ts σ) : lenAt w g = σ.opn.length := by
  obtain ⟨tv, ov, nv, rv, SN, h⟩ := h
  obtain ⟨A, c, rfl, -⟩ := own_sliceN h.opn
  unfold lenAt
  rw [h.blk.cell 4 rfl]
theorem popM_eq {σ : PS} {x : Ent} {K : List Ent} (h : σ.opn = x :: K) : popM σ = popX x K σ := by unfold popM; rw [h]
theorem Good.above {M e : Nat} {σ : PS} (h : Good M e σ) {x : Ent} {K : List Ent} (hx : σ.opn = x :: K) (hl : x ≠ ent0 x.reg) : ∃ K' g, K = K' ++ [ent0 g] := by
  obtain ⟨K', g, hb⟩ := h.bot
  rw [hx] at hb
  cases K' with
  | nil =>
    exfalso
    injection hb with h1 h2
    exact hl (by rw [h1]; rfl)
  | cons y K' =>
    injection hb with h1 h2
    exact ⟨K', g, h2⟩
theorem fin_good {M lev : Nat} (hl : 1 ≤ lev) : ∀ (o : List Ent) (σ : PS), σ.opn = o → Good M 1 σ → Good M 1 (finM lev σ)
  | [], σ, ho, h => by
    obtain ⟨x, K, hx⟩ := h.split
    rw [ho] at hx
    cases hx
  | x :: K, σ, ho, h => by
    by_cases hx : lev ≤ x.level
    · rw [fin_pop ho hx, ← popM_eq ho]
      exact fin_good hl K (popM σ) (by rw [popM_eq ho]; exact pop_opn x K σ) (pop_good h ho (h.above ho (fun e => by rw [e] at hx; exact absurd hx (by show ¬ lev ≤ 0; omega))))
    · rw [fin_stop ho (by omega)]
      exact h

set_option maxHeartbeats 4000000 in
theorem landFinish (bx : Option Nat) (base g M : Nat) (ts : List Tk) (σ : PS) (lev : Nat) (w : World) (hlow : Low bx w) (h : PMemE (Aw bx) w base g ts σ) (hg : Good M 1 σ) (hM : M ≤ 5000) (hl : 1 ≤ lev) :
    Calls Try.prog 25 #[.pointer (some ⟨g, 0, none⟩), .int .i64 (lev : Int)] w fun e w' => e = .returned (.tuple #[]) ∧ PMemE (Aw bx) w' base g ts (finM lev σ) ∧ Fr bx base w w' := by
  have HLO := Lib.hid hlow
  have HM := Lib.hid h
  have HG := Lib.hid hg
  have HL := Lib.hid (And.intro hM hl)
  clear hlow h hg hM hl
  go_enter Try.func25, Try.ntmps25
  go_wp2_with fail
  go_loopw [] (fun wr => ∃ τ, finM lev τ = finM lev σ ∧ Hid (Good M 1 τ) ∧ Hid (PMemE (Aw bx) wr base g ts τ) ∧ Hid (Fr bx base w wr)) (fun wr => lenAt wr g)
  case atStart => exact ⟨σ, rfl, HG.out, HM.out, Fr.refl _ _ _⟩
  case round =>
    obtain ⟨τ, hτ, HGT, HMT, HF⟩ := hrel
    obtain ⟨x, K, hx⟩ := HGT.out.split
    have HX := Lib.hid hx
    have HT := Lib.hid hτ
    have HTOP := Lib.hid (landTop base g ts τ x K wr HMT.out hx (by have := HGT.out.size; rw [hx, List.length_cons] at this; have := HL.out.1; omega))
    have q3 := fieldE3 x.kind x.lo x.hi x.kids x.level (Lex.bytes x.closer) x.reg x.depth
    clear hx hτ
    go_wp2_with fail
    refine HTOP.out.mono ?_
    rintro e w1 ⟨rfl, hb⟩
    have HB := Lib.hid hb
    clear hb
    by_cases hlx : lev ≤ x.level
    · have hle : (lev : Int) ≤ (x.level : Int) := by omega
      have hln : decide (lev ≤ x.level) = true := decide_eq_true hlx
      have hab := HGT.out.above HX.out (fun e => by rw [e] at hlx; exact absurd hlx (by show ¬ lev ≤ 0; have := HL.out.2; omega))
      have HAB := Lib.hid hab
      have HLX := Lib.hid hlx
      have HW := Lib.hid (HLO.out.mono (Nat.le_trans HF.out.below.size HB.out.size))
      clear hab hlx
      go_wp2_with fail
      refine (landPop bx base g M ts τ x K w1 HW.out (HMT.out.later HB.out) HGT.out HL.out.1 HX.out).mono ?_
      rintro e w2 ⟨rfl, hm, hf⟩
      have HM2 := Lib.hid hm
      have HF2 := Lib.hid ((HF.out.trans (Fr.later HB.out HMT.out.base)).trans hf)
      clear hm hf
      go_wp2_with fail
      go_roundw
      case rel => exact ⟨popM τ, by rw [← HT.out, popM_eq HX.out, ← fin_pop HX.out HLX.out], pop_good HGT.out HX.out HAB.out, HM2.out, HF2.out⟩
      case measure =>
        rw [HM2.out.len, HMT.out.len, HX.out, popM_eq HX.out, pop_opn, List.length_cons]
        exact Nat.lt_succ_self _
    · have hle : decide ((lev : Int) ≤ (x.level : Int)) = false := decide_eq_false (by omega)
      have hln : decide (lev ≤ x.level) = false := decide_eq_false hlx
      have HE := Lib.hid (show finM lev σ = τ by rw [← HT.out]; exact fin_stop HX.out (by omega))
      have HF2 := Lib.hid (HF.out.trans (Fr.later HB.out HMT.out.base))
      clear hlx
      go_wp2_with fail
      go_end0
      rw [HE.out]
      exact ⟨rfl, HMT.out.later HB.out, HF2.out⟩

set_option maxHeartbeats 4000000 in
theorem landEnd (bx : Option Nat) (base g M : Nat) (ts : List Tk) (σ : PS) (w : World) (hlow : Low bx w) (h : PMemE (Aw bx) w base g ts σ) (hg : Good M 1 σ) (hM : M ≤ 5000) :
    Calls Try.prog 71 #[.pointer (some ⟨g, 0, none⟩)] w fun e w' => e = .returned (.tuple #[]) ∧ PMemE (Aw bx) w' base g ts (endM σ) ∧ Fr bx base w w' := by
  have HF := Lib.hid (landFinish bx base g M ts σ 5 w hlow h hg hM (by omega))
  clear hlow h hg hM
  go_enter Try.func71, Try.ntmps71
  go_wp2_with fail
  refine HF.out.mono ?_
  rintro e w1 ⟨rfl, hm, hf⟩
  obtain ⟨tv, ov, nv, rv, SN, hm⟩ := hm
  have c2 := hm.blk.cell 2 rfl
  have f2 := hm.blk.fz 2 rfl
  have HM2 := Lib.hid (hm.store (σ' := endM σ) 2 (.bool true) rfl (by decide) hm.suf rfl rfl rfl)
  have HF2 := Lib.hid (hf.setCell (p := ⟨g, 2, none⟩) hm.hg hm.sg (.bool true))
  clear hm hf
  go_wp2_with fail
  go_end0
  exact ⟨rfl, ⟨_, _, _, _, _, HM2.out⟩, HF2.out⟩
end Go.Proofs.Ytbehlceacgaebaa.Parse
