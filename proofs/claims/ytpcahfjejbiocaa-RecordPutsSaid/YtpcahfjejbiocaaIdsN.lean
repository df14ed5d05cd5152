/-
  Ids as plain lists: which may be. By an AI agent.
-/
import Derived.Test.YtpcahfjejbiocaaTraceEv
namespace Go.Proofs.Ytpcahfjejbiocaa.Trace

/-- The i-th id is one, and greater than the one before it. -/
def IdGood (l : List Int) (props : Int) (i : Nat) : Prop := 0 ≤ l.getD i 0 ∧ l.getD i 0 < props ∧ (0 < i → l.getD (i - 1) 0 < l.getD i 0)
instance (l : List Int) (props : Int) (i : Nat) : Decidable (IdGood l props i) := by unfold IdGood; infer_instance
def idsOk (l : List Int) (props : Int) : Bool := decide (∀ i, i < l.length → IdGood l props i)
theorem ids_yes {l : List Int} {p : Int} (h : ∀ i, i < l.length → IdGood l p i) : idsOk l p = true := decide_eq_true h
theorem ids_no {l : List Int} {p : Int} {i : Nat} (hi : i < l.length) (h : ¬ IdGood l p i) : idsOk l p = false := decide_eq_false fun e => h (e i hi)
theorem good_more {p : Nat → Prop} {k : Nat} (h : ∀ i, i < k → p i) (hk : p k) : ∀ i, i < k + 1 → p i := fun i hi => by
  by_cases e : i = k
  · exact e ▸ hk
  · exact h i (by omega)
theorem idsOk_iff (l : List Int) (p : Int) : idsOk l p = true ↔ ∀ i, i < l.length → IdGood l p i := decide_eq_true_iff
theorem getD_at {α : Type} {l : List α} {i : Nat} {x d : α} (h : l[i]? = some x) : l.getD i d = x := by simp [List.getD, h]
theorem getD_take {α : Type} (l : List α) (k i : Nat) (d : α) (h : i < k) : (l.take k).getD i d = l.getD i d := by simp [List.getD, List.getElem?_take_of_lt h]
theorem getD_append_left {α : Type} (l m : List α) (i : Nat) (d : α) (h : i < l.length) : (l ++ m).getD i d = l.getD i d := by simp [List.getD, List.getElem?_append_left h]
end Go.Proofs.Ytpcahfjejbiocaa.Trace
