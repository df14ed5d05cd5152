/-
  The walk of the landed size. By an AI agent.
-/
import Derived.Test.YtpcahfjejbiocaaRecordLand1
namespace Go.Proofs.Ytpcahfjejbiocaa.Record
open Go.RowKit Go.Proofs.Ytpcahfjejbiocaa.Ints Go.Proofs.Ytpcahfjejbiocaa.Mem Go.Proofs.Ytpcahfjejbiocaa.SumMath Go.Proofs.Ytpcahfjejbiocaa.SumWalks Go.Proofs.Ytpcahfjejbiocaa.Trace

/-- What size answers. -/
def sizeN (b : List Int) (p : Int) : Nat := if sizeE b p = 0 then lenR b + 6 else 0
theorem len_bd {zs : List Int} (h : ∀ z ∈ zs, 0 ≤ z ∧ z ≤ 255) : 0 ≤ numR (zs.take 2) ∧ numR (zs.take 2) ≤ 65535 := by
  have := num_bd 2 (zs.take 2) (by rw [List.length_take]; omega) (fun z hz => h z (List.mem_of_mem_take hz))
  have e : (256 : Nat) ^ 2 = 65536 := by decide
  omega

set_option maxHeartbeats 4000000 in
set_option maxRecDepth 100000 in
theorem landSize (A : Option Addr) (n c : Nat) (zs : List Int) (p : Int) (w : World) (hnc : n ≤ c) (hc : c ≤ maxLen) (h : Rd .u8 w A n zs) (hp : 0 ≤ p ∧ p ≤ 64) :
    Calls Try.prog 25 #[.slice A n c, .int .i64 p] w fun e w' => e = .returned (.tuple #[.int .i64 (sizeN zs p : Nat), .int .i64 (sizeE zs p : Nat)]) ∧ w' = w := by
  have q63 : maxLen = 9223372036854775807 := rfl
  have hl := h.len
  obtain ⟨hp0, hp1⟩ := hp
  by_cases h0 : n = 0
  · have e1 : sizeE zs p = 13 := by unfold sizeE; rw [if_pos (by omega)]
    have e2 : sizeN zs p = 0 := by unfold sizeN; rw [e1]; rfl
    rw [e1, e2]
    subst h0
    clear h hl e1 e2
    go_enter Try.func25, Try.ntmps25
    go_wp2
    go_ret2
    exact ⟨rfl, rfl⟩
  by_cases h1 : n = 1
  · have e1 : sizeE zs p = 7 := by unfold sizeE; rw [if_neg (by omega), if_pos (by omega)]
    have e2 : sizeN zs p = 0 := by unfold sizeN; rw [e1]; rfl
    rw [e1, e2]
    subst h1
    clear h hl e1 e2
    go_enter Try.func25, Try.ntmps25
    go_wp2
    go_ret2
    exact ⟨rfl, rfl⟩
  obtain ⟨b, off, rfl, -⟩ := h.cell (by omega)
  have hL := len_bd (all_u8 h.all)
  have FN := Lib.hid (landNumber (some ⟨b, off, none⟩) 2 c (zs.take 2) w (by omega) (h.take (m := 2) (by omega)))
  have hlr : (lenR zs : Int) = numR (zs.take 2) := by unfold lenR; omega
  obtain ⟨L, hLL⟩ : ∃ L, numR (zs.take 2) = L := ⟨_, rfl⟩
  rw [hLL] at hL hlr FN
  have hs : sizeE zs p = if (L < 8 ∨ L > 8 + p) then 2 else if n < lenR zs + 6 then 7 else 0 := by
    unfold sizeE
    rw [if_neg (by omega), if_neg (by omega), hlr, hl]
  obtain ⟨hL0, hL1⟩ := hL
  obtain ⟨m, hm⟩ : ∃ m, lenR zs = m := ⟨_, rfl⟩
  have hLm : L = (m : Int) := by omega
  have hn0 : ((n : Int) == 0) = false := by simp; omega
  have hn1 : ¬ ((n : Int) < 2) := by omega
  have hc2 : (2 : Int) ≤ (c : Int) := by omega
  have hc3 : (n : Int) ≤ 9223372036854775807 := by omega
  rw [hm] at hs
  by_cases h2 : L < 8
  · have e1 : sizeE zs p = 2 := by rw [hs, if_pos (Or.inl h2)]
    have e2 : sizeN zs p = 0 := by unfold sizeN; rw [e1]; rfl
    rw [e1, e2]
    have h2' : decide (L < 8) = true := decide_eq_true h2
    clear h hl e1 e2 hs hlr hLL hm hLm
    go_enter Try.func25, Try.ntmps25
    go_wp2_with (go_at_call 34; refine FN.out.mono ?_; rintro e w' ⟨rfl, rfl⟩)
    go_ret2
    exact ⟨rfl, rfl⟩
  have h2' : decide (L < 8) = false := decide_eq_false h2
  by_cases h3 : L > 8 + p
  · have e1 : sizeE zs p = 2 := by rw [hs, if_pos (Or.inr h3)]
    have e2 : sizeN zs p = 0 := by unfold sizeN; rw [e1]; rfl
    rw [e1, e2]
    have h3' : decide (L > 8 + p) = true := decide_eq_true h3
    clear h hl e1 e2 hs hlr hLL hm hLm
    go_enter Try.func25, Try.ntmps25
    go_wp2_with (go_at_call 34; refine FN.out.mono ?_; rintro e w' ⟨rfl, rfl⟩)
    go_ret2
    exact ⟨rfl, rfl⟩
  have h3' : decide (L > 8 + p) = false := decide_eq_false h3
  by_cases h4 : n < m + 6
  · have e1 : sizeE zs p = 7 := by rw [hs, if_neg (by omega), if_pos h4]
    have e2 : sizeN zs p = 0 := by unfold sizeN; rw [e1]; rfl
    rw [e1, e2]
    have h4' : (n : Int) < L + 6 := by omega
    have h4'' : (n : Int) < 2 + L + 4 := by omega
    clear h hl e1 e2 hs hlr hLL hm hLm
    go_enter Try.func25, Try.ntmps25
    go_wp2_with (go_at_call 34; refine FN.out.mono ?_; rintro e w' ⟨rfl, rfl⟩)
    go_ret2
    exact ⟨rfl, rfl⟩
  · have e1 : sizeE zs p = 0 := by rw [hs, if_neg (by omega), if_neg h4]
    have e2 : sizeN zs p = m + 6 := by unfold sizeN; rw [e1, hm]; rfl
    rw [e1, e2]
    have h4' : ¬ ((n : Int) < 2 + L + 4) := by omega
    have HE := Lib.hid (show (2 + L + 4 : Int) = ((m + 6 : Nat) : Int) by omega)
    clear h hl e1 e2 hs hlr hLL hm hLm
    go_enter Try.func25, Try.ntmps25
    go_wp2_with (go_at_call 34; refine FN.out.mono ?_; rintro e w' ⟨rfl, rfl⟩)
    go_ret2
    exact ⟨by rw [HE.out]; rfl, rfl⟩
end Go.Proofs.Ytpcahfjejbiocaa.Record
