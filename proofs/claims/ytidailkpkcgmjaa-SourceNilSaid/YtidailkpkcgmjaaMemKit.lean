/-
  What walks over memory share, whatever the program: fields of structs that came in, cells behind later blocks, parts of slices, a block cell by cell, strings in rows. By an AI agent.
-/
import Derived.Test.YtidailkpkcgmjaaChecked
import Derived.WalkKit
import Derived.WalkSpells
import Derived.Below
import Derived.Lib.Hide
import Derived.Test.YtidailkpkcgmjaaInts
import Derived.Deep.Slices
import Derived.Deep.Fields
import Derived.ChangeSame
import Derived.ChangeArms
import Derived.ChangeSlices
import Derived.IntWalk
import Derived.Deep.QuietTactic
import Derived.BigQuiet
import Derived.Maps.AppendAt
import Derived.Laws.AppendOwnNone
namespace Go.Proofs.Ytidailkpkcgmjaa.Mem
open Go.RowKit Go.ChangeShapes Go.WideShapes Go.Deep Go.Proofs.Ytidailkpkcgmjaa.Ints

def small64 (x : Int) : Prop := -9223372036854775808 ≤ x ∧ x ≤ 9223372036854775807
/-- Any block. -/
def Any : Nat → Prop := fun _ => True
theorem cellsInt : Try.prog.cellsOf 3 = 1 := by kernel_rfl
theorem cellsInts : Try.prog.cellsOf 23 = 1 := by kernel_rfl
theorem field_at {fs : Array Field} {l : List (TypeId × Nat)} (h : fs.toList.map (fun f => (f.type, f.offset)) = l) {i : Nat} {t : TypeId} {o : Nat} (hi : l[i]? = some (t, o)) : ∃ f, fs[i]? = some f ∧ f.type = t ∧ f.offset = o := by
  rw [← h, List.getElem?_map] at hi
  obtain ⟨f, hf, he⟩ := Option.map_eq_some_iff.1 hi
  simp only [Prod.mk.injEq] at he
  exact ⟨f, by simpa using hf, he.1, he.2⟩
theorem one_of {cs : List Value} {o : Nat} {v : Value} (h : (cs.drop o).take 1 = [v]) : cs[o]? = some v := by
  have h1 := congrArg (·[0]?) h
  simpa using h1
theorem below_cell {w w' : World} {b o : Nat} {u : Value} (hb : Below w.heap.size w w') (h : w.cell? ⟨b, o, none⟩ = some u) : w'.cell? ⟨b, o, none⟩ = some u :=
  (hb.cell (World.block_lt_of_cell? w _ h)).trans h
theorem box_cell {w : World} {cs : Array Value} {T : TypeId} (o : Nat) (u : Value) (h : cs[o]? = some u) : (w.alloc (.cells cs T)).cell? ⟨w.heap.size, o, none⟩ = some u := by
  rw [cell_of_row _ w.heap.size o _ T (0, 0) (heap_alloc_new w _)]
  exact h
theorem below_row {w w' : World} {base : Nat} {e : TypeId} {size : Nat} {v : Value} {n : Nat} {xs : List Value} (h : w.ownsRow base e size v n xs) (hb : Below w.heap.size w w') : w'.ownsRow base e size v n xs :=
  h.kept (row := none) ⟨hb.os, hb.tape, hb.output, hb.size, fun i hi _ => hb.block i hi⟩ (by cases v.ownBlock <;> simp)
theorem below_drewN {B : Nat} {a w : World} (h : Below B a w) (n : Nat) : Below B a (w.drewN n) := ⟨h.os, h.tape, h.output, h.size, h.block⟩
theorem below_alloc {w w' : World} {o : Obj} (hb : Below (w.alloc o).heap.size (w.alloc o) w') : Below w.heap.size w w' :=
  ((Below.refl w.heap.size w).alloc (Nat.le_refl _) o).trans (hb.mono (by simp))
theorem le_alloc {a : Nat} {w : World} {o : Obj} (h : a ≤ w.heap.size) : a ≤ (w.alloc o).heap.size := by simp; omega
theorem fcell {W w1 : World} (hb : Below W.heap.size W w1) : (∀ b o, b < W.heap.size → w1.cell? ⟨b, o, none⟩ = W.cell? ⟨b, o, none⟩) ∧ (∀ b o, b < W.heap.size → w1.frozen? ⟨b, o, none⟩ = W.frozen? ⟨b, o, none⟩) :=
  ⟨fun b o h => hb.cell (p := ⟨b, o, none⟩) h, fun b o h => hb.frozen (p := ⟨b, o, none⟩) h⟩

/-- Where a part of a slice begins. -/
def fromAddr (A : Option Addr) (cap k size : Nat) : Option Addr := if cap = k then A else A.map (·.add (k * size))
set_option maxRecDepth 100000 in
theorem slice_from {P : Program} (t : TypeId) (ht : P.underlying t = some (.slice (P.elem t))) (size : Nat) (hs : (P.info? (P.elem t)).map (·.size) = some size) (A : Option Addr) (n cap k : Nat) (hk : k ≤ n) (W : World) :
    (Instr.slice t (.slice A n cap) (some (.int .i64 (k : Int))) none none).run P W = .ok (.slice (fromAddr A cap k size) (n - k) (cap - k)) W := by
  rw [run_slice_l W t A n cap ht .i64 (k : Int) (by omega) (by omega)]
  obtain ⟨i, hi, hz⟩ := Option.map_eq_some_iff.1 hs
  simp [sizeOf, typeInfo, hi, hz, Result.andThen, sliced, fromAddr]

set_option maxRecDepth 100000 in
theorem slice_upto {P : Program} (t : TypeId) (ht : P.underlying t = some (.slice (P.elem t))) (size : Nat) (hs : (P.info? (P.elem t)).map (·.size) = some size) (A : Option Addr) (n cap k : Nat) (hk : k ≤ cap) (W : World) :
    (Instr.slice t (.slice A n cap) none (some (.int .i64 (k : Int))) none).run P W = .ok (.slice A k cap) W := by
  rw [run_slice_h W t A n cap ht .i64 (k : Int) (by omega) (by omega)]
  obtain ⟨i, hi, hz⟩ := Option.map_eq_some_iff.1 hs
  cases A with
  | none => simp [sizeOf, typeInfo, hi, hz, Result.andThen, sliced]
  | some a => by_cases hc : cap = 0 <;> simp [sizeOf, typeInfo, hi, hz, Result.andThen, sliced, Addr.add, hc]

/-! ### rows cut short; their forms, whatever an element's cells -/
theorem own_weaken {w : World} {base base' : Nat} {e : TypeId} {size : Nat} {v : Value} {n : Nat} {xs : List Value} (h : w.ownsRow base e size v n xs) (hb : base' ≤ base) : w.ownsRow base' e size v n xs := by
  refine ⟨h.1, ?_⟩
  rcases h.2 with h2 | ⟨g, cap, cur, h3, h4, h5⟩
  · exact .inl h2
  · exact .inr ⟨g, cap, cur, h3, Nat.le_trans hb h4, h5⟩
theorem own_sliceN {w : World} {base : Nat} {e : TypeId} {size : Nat} {v : Value} {n : Nat} {xs : List Value} (h : w.ownsRow base e size v n xs) : ∃ A c, v = .slice A n c ∧ n ≤ c ∧ c ≤ maxLen ∧ (A = none → c = 0) ∧ (∀ a, A = some a → base ≤ a.block ∧ a.block < w.heap.size ∧ a = ⟨a.block, 0, none⟩) := by
  have hlt := h.lt
  rcases h.2 with ⟨rfl, h0⟩ | ⟨g, cap, cur, rfl, h1, h2, h3, h4, h5⟩
  · exact ⟨none, 0, by rw [h0], by omega, by decide, fun _ => rfl, fun a e => by cases e⟩
  · exact ⟨_, cap, rfl, h3, h4, (fun e => by cases e), fun a e => by injection e with e; subst e; exact ⟨(hlt g rfl).1, (hlt g rfl).2, rfl⟩⟩
theorem own_same (A : Option Addr) (k n c : Nat) : (Value.slice A k c).ownBlock = (Value.slice A n c).ownBlock := by cases A <;> rfl

/-! ### lists of strings -/
def strS (s : List UInt8) : Value := .string ⟨s.toArray⟩
theorem str_eta (n : ByteArray) : (Value.string n) = strS n.data.toList := by
  obtain ⟨⟨l⟩⟩ := n
  rfl
/-- The slice of address A reads as the texts l. -/
def Strs (w : World) (A : Option Addr) (l : List (List UInt8)) : Prop :=
  0 < l.length → ∃ b off, A = some ⟨b, off, none⟩ ∧ ∀ (j : Nat) (s : List UInt8), l[j]? = some s → w.cell? ⟨b, off + j, none⟩ = some (strS s)
theorem Strs.below {w w' : World} {A : Option Addr} {l : List (List UInt8)} (h : Strs w A l) (hb : Below w.heap.size w w') : Strs w' A l := fun h0 => by
  obtain ⟨b, off, h1, h2⟩ := h h0
  exact ⟨b, off, h1, fun j s hs => below_cell hb (h2 j s hs)⟩
theorem Strs.nil (w : World) (A : Option Addr) : Strs w A [] := fun h => by simp at h
theorem Strs.take {w : World} {A : Option Addr} {l : List (List UInt8)} (h : Strs w A l) (k : Nat) : Strs w A (l.take k) := fun h0 => by
  rw [List.length_take] at h0
  obtain ⟨b, off, h1, h2⟩ := h (by omega)
  refine ⟨b, off, h1, fun j s hs => h2 j s ?_⟩
  by_cases hj : j < k
  · rwa [List.getElem?_take_of_lt hj] at hs
  · rw [List.getElem?_eq_none (by rw [List.length_take]; omega)] at hs
    cases hs
theorem strs_own {w : World} {base : Nat} {e : TypeId} {A : Option Addr} {n c : Nat} {l : List (List UInt8)} (h : w.ownsRow base e 1 (.slice A n c) n (l.map strS)) : l.length = n ∧ Strs w A l ∧ n ≤ c ∧ c ≤ maxLen := by
  have hl : l.length = n := by simpa using h.1
  obtain ⟨A', c', e1, h1, h2, -⟩ := own_slice h
  injection e1 with e1 _ e3
  subst e1; subst e3
  refine ⟨hl, fun h0 => ?_, h1, h2⟩
  obtain ⟨g, cap, e4, -⟩ := own_form h (by omega)
  injection e4 with e4 _ e5
  subst e4; subst e5
  refine ⟨g, 0, rfl, fun j s hs => ?_⟩
  have hj : j < l.length := (List.getElem?_eq_some_iff.1 hs).1
  rw [Nat.zero_add, h.cellAt j (by omega), List.getElem?_map, hs]
  rfl
end Go.Proofs.Ytidailkpkcgmjaa.Mem
