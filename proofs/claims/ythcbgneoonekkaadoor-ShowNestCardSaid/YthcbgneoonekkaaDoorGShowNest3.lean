/-
  Two nodes are one, or not. By an AI agent.
  Intervals of time in plain arithmetic, and the walk of the reference's MaySpan. By an AI agent.
-/
import Derived.Test.YthcbgneoonekkaaDoorGShowNest2
import Derived.Test.YthcbgneoonekkaaDoorChecked
import Derived.WalkKit
import Derived.WalkSpells
import Derived.WalkLawsBesides
import Derived.Below
import Derived.Lib.Hide
import Derived.Lib.MinMax
import Derived.IntWalk
namespace Go.Proofs.YthcbgneoonekkaaDoor.Tree
deriving instance DecidableEq for Nd
theorem le_alloc {a : Nat} {w : World} {o : Obj} (h : a ≤ w.heap.size) : a ≤ (w.alloc o).heap.size := by simp; omega
end Go.Proofs.YthcbgneoonekkaaDoor.Tree

namespace Go.Proofs.YthcbgneoonekkaaDoor.Ival
open Go.RowKit

/-- May the span be? -/
def mayS (lo hi : Int) : Bool := decide (0 ≤ lo ∧ lo ≤ 9999 ∧ (hi = -1 ∨ (lo ≤ hi ∧ hi ≤ 9999)))
def hasS (lo hi : Int) (d : Nat) : Bool := mayS lo hi && decide (lo ≤ d ∧ (hi = -1 ∨ (d : Int) ≤ hi))
def wideS (lo hi : Int) : Int := if mayS lo hi = true then (if hi = -1 then lo + 1 else hi + 1) else 0
def classS (lo hi : Int) (d : Nat) : Int := if mayS lo hi = true then (if hi = -1 then min (d : Int) lo else if hi < (d : Int) then -1 else d) else -1
def inS (lo hi c : Int) : Bool := decide (0 ≤ c ∧ c < wideS lo hi ∧ lo ≤ c)
def laterS (lo hi c : Int) (d : Nat) : Int :=
  if 0 ≤ c ∧ c < wideS lo hi then (if (d : Int) ≤ wideS lo hi - 1 - c then c + d else if hi = -1 then lo else -1) else -1

abbrev span (lo hi : Int) : Value := .agg #[.int .i64 lo, .int .i64 hi]

theorem may_parts {lo hi : Int} (h : mayS lo hi = true) : 0 ≤ lo ∧ lo ≤ 9999 ∧ (hi = -1 ∨ (lo ≤ hi ∧ hi ≤ 9999)) := of_decide_eq_true h

theorem box0 {w w' : World} {x y : Value} {T : TypeId} (hb : Below (w.alloc (.cells #[x, y] T)).heap.size (w.alloc (.cells #[x, y] T)) w') : w'.cell? ⟨w.heap.size, 0, none⟩ = some x := by
  have h : (w.alloc (.cells #[x, y] T)).cell? ⟨w.heap.size, 0, none⟩ = some x := by rw [cell_of_row _ w.heap.size 0 _ T (0, 0) (heap_alloc_new w _)]; rfl
  exact (hb.cell (World.block_lt_of_cell? _ _ h)).trans h
theorem box1 {w w' : World} {x y : Value} {T : TypeId} (hb : Below (w.alloc (.cells #[x, y] T)).heap.size (w.alloc (.cells #[x, y] T)) w') : w'.cell? ⟨w.heap.size, 1, none⟩ = some y := by
  have h : (w.alloc (.cells #[x, y] T)).cell? ⟨w.heap.size, 1, none⟩ = some y := by rw [cell_of_row _ w.heap.size 1 _ T (0, 0) (heap_alloc_new w _)]; rfl
  exact (hb.cell (World.block_lt_of_cell? _ _ h)).trans h
theorem keep_cell {w w' : World} {p : Addr} {u : Value} (hb : Below w.heap.size w w') (h : w.cell? p = some u) : w'.cell? p = some u := (hb.cell (World.block_lt_of_cell? w p h)).trans h
theorem may_cases (lo hi : Int) : lo < 0 ∧ mayS lo hi = false ∨ (0 ≤ lo ∧ 9999 < lo ∧ mayS lo hi = false) ∨ (0 ≤ lo ∧ lo ≤ 9999 ∧ hi = -1 ∧ mayS lo hi = true) ∨
    (0 ≤ lo ∧ lo ≤ 9999 ∧ (hi == -1) = false ∧ hi < lo ∧ mayS lo hi = false) ∨ (0 ≤ lo ∧ lo ≤ 9999 ∧ (hi == -1) = false ∧ lo ≤ hi ∧ decide (hi ≤ 9999) = false ∧ mayS lo hi = false) ∨
    (0 ≤ lo ∧ lo ≤ 9999 ∧ (hi == -1) = false ∧ lo ≤ hi ∧ hi ≤ 9999 ∧ mayS lo hi = true) := by
  unfold mayS
  simp only [beq_eq_false_iff_ne, ne_eq, decide_eq_false_iff_not, decide_eq_true_iff]
  omega

/-- What a span that may be is; and one that may not. -/
theorem may_ways (lo hi : Int) : mayS lo hi = false ∨ (mayS lo hi = true ∧ hi = -1 ∧ 0 ≤ lo ∧ lo ≤ 9999) ∨ (mayS lo hi = true ∧ (hi == -1) = false ∧ ¬ hi = -1 ∧ 0 ≤ lo ∧ lo ≤ hi ∧ hi ≤ 9999) := by
  unfold mayS
  simp only [beq_eq_false_iff_ne, ne_eq, decide_eq_false_iff_not, decide_eq_true_iff]
  omega

end Go.Proofs.YthcbgneoonekkaaDoor.Ival
