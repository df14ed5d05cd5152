/-
  As many nodes as may be, and more: what the reader in plain lists tells. By an AI agent.
-/
import Derived.Test.YtbljjmgmdcjocaaParseAwake
namespace Go.Proofs.Ytbljjmgmdcjocaa.Parse
open Go.RowKit Go.Proofs.Ytbljjmgmdcjocaa.Ints Go.Proofs.Ytbljjmgmdcjocaa.Lex Go.Proofs.Ytbljjmgmdcjocaa.Tree

def manyText (g : Bool) : Nat → List UInt8
  | 0 => []
  | i + 1 => manyText g i ++ [if i % 2 = 1 then (if g = true then 43 else 38) else (if g = true then 46 else 112)]
def manyOk (g : Bool) (k : Nat) : Bool := let x := parseS g (manyText g k)
  if 200 < k then decide (x.2 = (200, 4)) && decide (x.1.length = 0) else if k % 2 = 0 then decide (x.2 = (k, 2)) && decide (x.1.length = 0) else decide (x.2 = (0, 0)) && decide (x.1.length = k)
set_option maxRecDepth 100000 in
theorem many_all : [true, false].all (fun g => (List.range 11).all fun d => manyOk g (195 + d)) = true := by decide +kernel
theorem many_ok (g : Bool) {k : Nat} (hk : 195 ≤ k ∧ k ≤ 205) : manyOk g k = true := by
  obtain ⟨d, rfl⟩ : ∃ d, k = 195 + d := ⟨k - 195, by omega⟩
  have h1 := List.all_eq_true.1 many_all g (by cases g <;> simp)
  exact List.all_eq_true.1 h1 d (List.mem_range.2 (by omega))
theorem many_over {g : Bool} {k : Nat} (hk : 200 < k ∧ k ≤ 205) : parseS g (manyText g k) = ([], 200, 4) := by
  have := many_ok g (k := k) (by omega)
  unfold manyOk at this
  simp only at this
  rw [if_pos hk.1, Bool.and_eq_true, decide_eq_true_eq, decide_eq_true_eq] at this
  obtain ⟨l, e1, e2⟩ := out_split this.1
  have hl : l = [] := List.eq_nil_of_length_eq_zero (by rw [← e2]; exact this.2)
  rw [e1, hl]
theorem many_even {g : Bool} {k : Nat} (hk : 195 ≤ k ∧ k ≤ 200) (h2 : k % 2 = 0) : parseS g (manyText g k) = ([], k, 2) := by
  have := many_ok g (k := k) (by omega)
  unfold manyOk at this
  simp only at this
  rw [if_neg (by omega), if_pos h2, Bool.and_eq_true, decide_eq_true_eq, decide_eq_true_eq] at this
  obtain ⟨l, e1, e2⟩ := out_split this.1
  have hl : l = [] := List.eq_nil_of_length_eq_zero (by rw [← e2]; exact this.2)
  rw [e1, hl]
theorem many_odd {g : Bool} {k : Nat} (hk : 195 ≤ k ∧ k ≤ 200) (h2 : k % 2 ≠ 0) : ∃ l, parseS g (manyText g k) = (l, 0, 0) ∧ l.length = k := by
  have := many_ok g (k := k) (by omega)
  unfold manyOk at this
  simp only at this
  rw [if_neg (by omega), if_neg h2, Bool.and_eq_true, decide_eq_true_eq, decide_eq_true_eq] at this
  obtain ⟨l, e1, e2⟩ := out_split this.1
  exact ⟨l, e1, by rw [← e2]; exact this.2⟩
theorem many_len (g : Bool) (k : Nat) : (manyText g k).length = k := by
  induction k with
  | zero => rfl
  | succ k ih => rw [manyText, List.length_append, ih]; rfl
end Go.Proofs.Ytbljjmgmdcjocaa.Parse
