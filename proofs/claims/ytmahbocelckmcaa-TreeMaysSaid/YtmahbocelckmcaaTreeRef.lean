/-
  Kinds of nodes in plain arithmetic, and the reference's small functions on them. By an AI agent.
-/
import Derived.Test.YtmahbocelckmcaaChecked
import Derived.WalkKit
import Derived.WalkSpells
import Derived.Below
import Derived.Lib.Hide
namespace Go.Proofs.Ytmahbocelckmcaa.Tree
open Go.RowKit

def none0 : List Int := [1, 2, 3, 18]
def twos : List Int := [5, 6, 7, 14, 15, 20, 21]
/-- How many kids a kind has; -1: it is none. -/
def arity (k : Int) : Int := if k ∈ none0 then 0 else if k ∈ twos then 2 else if k < 1 ∨ 22 < k then -1 else 1
def formKind (k : Int) : Bool := decide (1 ≤ k ∧ k ≤ 17)
def timed (k : Int) : Bool := decide (8 ≤ k ∧ k ≤ 17)
def regs : List Int := [16, 17, 20, 21, 22]
def fits (k c : Int) : Bool := if k ∈ regs then !(formKind c) else formKind c

theorem refFormKind (k : Int) (w : World) :
    Calls Try.prog 56 #[.int .i64 k] w fun e w' => e = .returned (.bool (formKind k)) ∧ w' = w := by
  have h : formKind k = (decide (1 ≤ k) && decide (k ≤ 17)) := Bool.decide_and _ _
  rw [h]
  by_cases h1 : 1 ≤ k
  all_goals
    go_enter Try.func56, Try.ntmps56
    go_wp2
    go_ret
    exact ⟨by first | (simp [h1]; done) | (simp; omega), rfl⟩
theorem refTimed (k : Int) (w : World) :
    Calls Try.prog 51 #[.int .i64 k] w fun e w' => e = .returned (.bool (timed k)) ∧ w' = w := by
  have h : timed k = (decide (8 ≤ k) && decide (k ≤ 17)) := Bool.decide_and _ _
  rw [h]
  by_cases h1 : 8 ≤ k
  all_goals
    go_enter Try.func51, Try.ntmps51
    go_wp2
    go_ret
    exact ⟨by first | (simp [h1]; done) | (simp; omega), rfl⟩

theorem arity_ways (k : Int) : (k = 1 ∨ k = 2 ∨ k = 3 ∨ k = 18) ∨ (k = 5 ∨ k = 6 ∨ k = 7 ∨ k = 14 ∨ k = 15 ∨ k = 20 ∨ k = 21) ∨
    ((k == 1) = false ∧ (k == 2) = false ∧ (k == 3) = false ∧ (k == 18) = false ∧ (k == 5) = false ∧ (k == 6) = false ∧ (k == 7) = false ∧ (k == 14) = false ∧ (k == 15) = false ∧ (k == 20) = false ∧ (k == 21) = false ∧
      arity k = if k < 1 ∨ 22 < k then -1 else 1) := by
  by_cases h1 : k = 1 ∨ k = 2 ∨ k = 3 ∨ k = 18
  · exact Or.inl h1
  · by_cases h2 : k = 5 ∨ k = 6 ∨ k = 7 ∨ k = 14 ∨ k = 15 ∨ k = 20 ∨ k = 21
    · exact Or.inr (Or.inl h2)
    · refine Or.inr (Or.inr ?_)
      simp only [beq_eq_false_iff_ne]
      refine ⟨by omega, by omega, by omega, by omega, by omega, by omega, by omega, by omega, by omega, by omega, by omega, ?_⟩
      unfold arity
      rw [if_neg (by simp only [none0, List.mem_cons, List.not_mem_nil, or_false]; exact h1), if_neg (by simp only [twos, List.mem_cons, List.not_mem_nil, or_false]; exact h2)]

set_option maxHeartbeats 2000000 in
theorem refArity (k : Int) (w : World) :
    Calls Try.prog 43 #[.int .i64 k] w fun e w' => e = .returned (.int .i64 (arity k)) ∧ w' = w := by
  rcases arity_ways k with h | h | ⟨a1, a2, a3, a4, a5, a6, a7, a8, a9, a10, a11, h⟩
  · rcases h with rfl | rfl | rfl | rfl
    all_goals
      go_enter Try.func43, Try.ntmps43
      go_wp2
      go_ret
      exact ⟨rfl, rfl⟩
  · rcases h with rfl | rfl | rfl | rfl | rfl | rfl | rfl
    all_goals
      go_enter Try.func43, Try.ntmps43
      go_wp2
      go_ret
      exact ⟨rfl, rfl⟩
  · by_cases h1 : k < 1
    · rw [h, if_pos (Or.inl h1)]
      clear h
      go_enter Try.func43, Try.ntmps43
      go_wp2
      go_ret
      exact ⟨rfl, rfl⟩
    · by_cases h2 : 22 < k
      · rw [h, if_pos (Or.inr h2)]
        clear h
        go_enter Try.func43, Try.ntmps43
        go_wp2
        go_ret
        exact ⟨rfl, rfl⟩
      · rw [h, if_neg (by omega)]
        have h1' : decide (k < 1) = false := decide_eq_false h1
        have h2' : decide (22 < k) = false := decide_eq_false h2
        clear h
        go_enter Try.func43, Try.ntmps43
        go_wp2
        go_ret
        exact ⟨rfl, rfl⟩

theorem refFits (k c : Int) (w : World) :
    Calls Try.prog 53 #[.int .i64 k, .int .i64 c] w fun e w' => e = .returned (.bool (fits k c)) ∧ w' = w := by
  have hF := fun W => refFormKind c W
  by_cases h : k = 16 ∨ k = 17 ∨ k = 20 ∨ k = 21 ∨ k = 22
  · have e : fits k c = !(formKind c) := by
      unfold fits
      rw [if_pos (by simp only [regs, List.mem_cons, List.not_mem_nil, or_false]; exact h)]
    rw [e]
    obtain ⟨b, hb⟩ : ∃ b, formKind c = b := ⟨_, rfl⟩
    rw [hb] at hF ⊢
    have HF := Lib.hid hF
    clear hF hb e
    rcases h with rfl | rfl | rfl | rfl | rfl
    all_goals
      go_enter Try.func53, Try.ntmps53
      go_wp2_with (go_at_call 56; refine (HF.out _).mono ?_; rintro e w' ⟨rfl, rfl⟩)
      go_ret
      exact ⟨rfl, rfl⟩
  · have e : fits k c = formKind c := by
      unfold fits
      rw [if_neg (by simp only [regs, List.mem_cons, List.not_mem_nil, or_false]; exact h)]
    rw [e]
    have a1 : (k == 16) = false := beq_eq_false_iff_ne.2 (by omega)
    have a2 : (k == 17) = false := beq_eq_false_iff_ne.2 (by omega)
    have a3 : (k == 20) = false := beq_eq_false_iff_ne.2 (by omega)
    have a4 : (k == 21) = false := beq_eq_false_iff_ne.2 (by omega)
    have a5 : (k == 22) = false := beq_eq_false_iff_ne.2 (by omega)
    obtain ⟨b, hb⟩ : ∃ b, formKind c = b := ⟨_, rfl⟩
    rw [hb] at hF ⊢
    have HF := Lib.hid hF
    clear hF hb e h
    go_enter Try.func53, Try.ntmps53
    go_wp2_with (go_at_call 56; refine (HF.out _).mono ?_; rintro e w' ⟨rfl, rfl⟩)
    go_ret
    exact ⟨rfl, rfl⟩
end Go.Proofs.Ytmahbocelckmcaa.Tree
