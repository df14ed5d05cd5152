/-
  Lists of nodes in memory; what a list of nodes that came in reads as; spans compared by value; a slice from a place on. By an AI agent.
  Rows of nodes of the call's own: what they read as, append of one and of many. By an AI agent.
  Two nodes are one, or not. By an AI agent.
  Tokens in plain lists of bytes. Tokens in plain lists of bytes: blanks, numbers, the laws' own texts. Tokens in plain lists of bytes: a number as it is written; one word, blanks alone. Tokens in plain lists of bytes: what each branch of a walk says of the piece that begins. Rows of tokens in memory: append of one; what a walk reads. Texts, byte by byte: what the walks share. The walks of the reference's small, digit and run. The walks of the reference's Reserved and Name.
    Made of several texts by wip/tools/mergetpl.py. By an AI agent.
-/
import Derived.Test.YtdbgaccnejffpaaChecked
import Derived.WalkKit
import Derived.WalkSpells
import Derived.Below
import Derived.Lib.Hide
import Derived.Test.YtdbgaccnejffpaaGSatShift1
import Derived.Deep.Slices
import Derived.Deep.Fields
import Derived.ChangeSame
import Derived.ChangeArms
import Derived.ChangeSlices
import Derived.Laws.StructEq
import Derived.IntWalk
import Derived.Deep.QuietTactic
import Derived.BigQuiet
import Derived.Maps.AppendAt
import Derived.Laws.AppendOwnNone
import Derived.Lib.ItoaNum
import Derived.Laws.AppendOwn
import Derived.Sort.OwnSorted
import Derived.WalkLawsBesides
import Derived.Lib.MinMax
import Derived.OwnWalk
/- Lists of nodes in memory; what a list of nodes that came in reads as. By an AI agent. -/
namespace Go.Proofs.Ytdbgaccnejffpaa.Tree
open Go.RowKit Go.ChangeShapes Go.WideShapes Go.Deep Go.Proofs.Ytdbgaccnejffpaa.Ints
structure Nd where
 kind : Int
 name : ByteArray
 lo : Int
 hi : Int
 kids : List Int
def small64 (x : Int) : Prop := -9223372036854775808 ≤ x ∧ x ≤ 9223372036854775807
def Any : Nat → Prop := fun _ => True
def NodeAt (S : Nat → Prop) (w : World) (b o : Nat) (n : Nd) : Prop :=
 w.cell? ⟨b, o, none⟩ = some (.int .i64 n.kind) ∧ w.cell? ⟨b, o + 1, none⟩ = some (.string n.name) ∧ w.cell? ⟨b, o + 2, none⟩ = some (.int .i64 n.lo) ∧ w.cell? ⟨b, o + 3, none⟩ = some (.int .i64 n.hi) ∧
  small64 n.kind ∧ small64 n.lo ∧ small64 n.hi ∧ n.name.size ≤ maxLen ∧
  ∃ (K : Option Addr) (c : Nat), w.cell? ⟨b, o + 4, none⟩ = some (.slice K n.kids.length c) ∧ Rd .i64 w K n.kids.length n.kids ∧ n.kids.length ≤ c ∧ c ≤ maxLen ∧ S b ∧ (∀ a, K = some a → 0 < n.kids.length → S a.block)
theorem NodeAt.keep {S : Nat → Prop} {w w' : World} {b o : Nat} {n : Nd} (h : NodeAt S w b o n) (hk : ∀ p u, S p.block → w.cell? p = some u → w'.cell? p = some u) : NodeAt S w' b o n := by
 obtain ⟨h1, h2, h3, h4, h5, h6, h7, h8, K, c, h9, h10, h11, h12, h13, h14⟩ := h
 refine ⟨hk _ _ h13 h1, hk _ _ h13 h2, hk _ _ h13 h3, hk _ _ h13 h4, h5, h6, h7, h8, K, c, hk _ _ h13 h9, ⟨h10.1, h10.2.1, fun h0 => ?_⟩, h11, h12, h13, h14⟩
 obtain ⟨b', off, e, hc⟩ := h10.2.2 h0
 exact ⟨b', off, e, fun j hj => hk ⟨b', off + j, none⟩ _ (h14 ⟨b', off, none⟩ e h0) (hc j hj)⟩
theorem NodeAt.mono {S S' : Nat → Prop} {w : World} {b o : Nat} {n : Nd} (h : NodeAt S w b o n) (hs : ∀ b, b < w.heap.size → S b → S' b) : NodeAt S' w b o n := by
 obtain ⟨h1, h2, h3, h4, h5, h6, h7, h8, K, c, h9, h10, h11, h12, h13, h14⟩ := h
 refine ⟨h1, h2, h3, h4, h5, h6, h7, h8, K, c, h9, h10, h11, h12, hs _ (World.block_lt_of_cell? w _ h1) h13, fun a e h0 => ?_⟩
 obtain ⟨b', off, e', hc⟩ := h10.2.2 h0
 subst e
 injection e' with e'
 subst e'
 exact hs _ (World.block_lt_of_cell? w _ (hc 0 h0)) (h14 _ rfl h0)
def Nodes (S : Nat → Prop) (w : World) (A : Option Addr) (l : List Nd) : Prop :=
 0 < l.length → ∃ b off, A = some ⟨b, off, none⟩ ∧ ∀ (j : Nat) (n : Nd), l[j]? = some n → NodeAt S w b (off + 5 * j) n
theorem Nodes.keep {S : Nat → Prop} {w w' : World} {A : Option Addr} {l : List Nd} (h : Nodes S w A l) (hk : ∀ p u, S p.block → w.cell? p = some u → w'.cell? p = some u) : Nodes S w' A l := fun h0 => by
 obtain ⟨b, off, h1, h2⟩ := h h0
 exact ⟨b, off, h1, fun j n hn => (h2 j n hn).keep hk⟩
theorem Nodes.mono {S S' : Nat → Prop} {w : World} {A : Option Addr} {l : List Nd} (h : Nodes S w A l) (hs : ∀ b, b < w.heap.size → S b → S' b) : Nodes S' w A l := fun h0 => by
 obtain ⟨b, off, h1, h2⟩ := h h0
 exact ⟨b, off, h1, fun j n hn => (h2 j n hn).mono hs⟩
theorem Nodes.any {S : Nat → Prop} {w : World} {A : Option Addr} {l : List Nd} (h : Nodes S w A l) : Nodes Any w A l := h.mono fun _ _ _ => trivial
theorem Nodes.below {S : Nat → Prop} {w w' : World} {A : Option Addr} {l : List Nd} (h : Nodes S w A l) (hb : Below w.heap.size w w') : Nodes S w' A l :=
 h.keep fun p _ _ hp => (hb.cell (World.block_lt_of_cell? w p hp)).trans hp
theorem Nodes.nil (S : Nat → Prop) (w : World) (A : Option Addr) : Nodes S w A [] := fun h => by simp at h
theorem structSpan : Try.prog.underlying 50 = some (.struct (Try.prog.fieldsOf 50)) := by kernel_rfl
section
variable {H : Type} {enc : TypeId × Value → H} {w : World}
def NodeOk (w : World) (n : Nd) (K : Option Addr) (c : Nat) : Prop :=
 small64 n.kind ∧ small64 n.lo ∧ small64 n.hi ∧ n.name.size ≤ maxLen ∧ Rd .i64 w K n.kids.length n.kids ∧ n.kids.length ≤ c ∧ c ≤ maxLen
end
end Go.Proofs.Ytdbgaccnejffpaa.Tree
/- Spans compared by value; a slice from a place on. By an AI agent. -/
namespace Go.Proofs.Ytdbgaccnejffpaa.Tree
open Go.RowKit Go.Proofs.Ytdbgaccnejffpaa.Ints
theorem fieldsSpan3 : (Try.prog.fieldsOf 50).toList.map (fun f => (f.name, f.type, f.offset)) = [("Lo", 3, 0), ("Hi", 3, 1)] := by kernel_rfl
theorem stoodSpan : Try.prog.stoodInHeld 50 = false := by kernel_rfl
theorem guardSpan : Try.prog.eqGuardType Try.prog.depth 50 = false := by kernel_rfl
theorem part_int {P : Program} (w : World) (t : TypeId) (cs : Array Value) (o : Nat) (v : Value) {k : IntKind} (ht : P.underlying t = some (.int k)) (hv : cs[o]? = some v) : (part t cs o).run P w = .ok v w := by
 simp [part, isAgg, run_underlying ht, hv]
set_option maxRecDepth 100000 in
theorem span_equal (a b c d : Int) (w : World) : (Op.equalIn 10000 50 (.agg #[.int .i64 a, .int .i64 b]) (.agg #[.int .i64 c, .int .i64 d])).run Try.prog w = .ok (decide (a = c ∧ b = d)) w := by
 rw [run_equalIn_struct w _ _ _ _ structSpan stoodSpan]
 generalize hfs : (Try.prog.fieldsOf 50).toList = fs
 have h := fieldsSpan3
 rw [hfs] at h
 match fs, h with
 | [f0, f1], h =>
  simp only [List.map_cons, List.map_nil, List.cons.injEq, Prod.mk.injEq, and_true] at h
  obtain ⟨⟨n0, t0, o0⟩, n1, t1, o1⟩ := h
  have q0 : ∀ (W : World) (x y : Value), (part 3 #[x, y] 0).run Try.prog W = .ok x W := fun W x y => part_int W _ _ 0 x Try.underlying3 rfl
  have q1 : ∀ (W : World) (x y : Value), (part 3 #[x, y] 1).run Try.prog W = .ok y W := fun W x y => part_int W _ _ 1 y Try.underlying3 rfl
  have e0 : ∀ (W : World) (x y : Int), (Op.equalIn 9999 3 (.int .i64 x) (.int .i64 y)).run Try.prog W = .ok (x == y) W := fun W x y => run_equalIn_int W 9998 _ .i64 .i64 x y Try.underlying3
  have hk : ∀ x y : Int, (x == y) = decide (x = y) := fun x y => by
   rw [Bool.eq_iff_iff, beq_iff_eq, decide_eq_true_iff]
  have hfin : decide (a = c ∧ b = d) = (decide (a = c) && decide (b = d)) := Bool.decide_and _ _
  rw [hfin]
  simp only [Op.eqFields, n0, t0, o0, n1, t1, o1, q0, q1, e0, hk, Sem.run_bind, Result.andThen_ok, ne_eq, String.reduceEq, not_false_eq_true, if_true, Sem.run_ite, Sem.run_pure]
  generalize decide (a = c) = b0
  generalize decide (b = d) = b1
  cases b0 <;> cases b1 <;> rfl
set_option maxRecDepth 100000 in
theorem span_eql (a b c d : Int) (w : World) : (binOp .eql 50 (.agg #[.int .i64 a, .int .i64 b]) (.agg #[.int .i64 c, .int .i64 d])).run Try.prog w = .ok (.bool (decide (a = c ∧ b = d))) w := by
 rw [run_eql_struct, span_equal]
 rfl
def fromAddr (A : Option Addr) (cap k size : Nat) : Option Addr := if cap = k then A else A.map (·.add (k * size))
set_option maxRecDepth 100000 in
theorem slice_from {P : Program} (t : TypeId) (ht : P.underlying t = some (.slice (P.elem t))) (size : Nat) (hs : (P.info? (P.elem t)).map (·.size) = some size) (A : Option Addr) (n cap k : Nat) (hk : k ≤ n) (W : World) :
  (Instr.slice t (.slice A n cap) (some (.int .i64 (k : Int))) none none).run P W = .ok (.slice (fromAddr A cap k size) (n - k) (cap - k)) W := by
 rw [run_slice_l W t A n cap ht .i64 (k : Int) (by omega) (by omega)]
 obtain ⟨i, hi, hz⟩ := Option.map_eq_some_iff.1 hs
 simp [sizeOf, typeInfo, hi, hz, Result.andThen, sliced, fromAddr]
theorem Rd.from {k : IntKind} {w : World} {A : Option Addr} {n cap j : Nat} {zs : List Int} (h : Rd k w A n zs) (hn : n ≤ cap) (hj : j ≤ n) : Rd k w (fromAddr A cap j 1) (n - j) (zs.drop j) := by
 unfold fromAddr
 by_cases hc : cap = j
 ·rw [if_pos hc]
  have e : n - j = 0 := by omega
  have e2 : zs.drop j = [] := List.drop_eq_nil_of_le (by rw [h.len]; omega)
  rw [e, e2]
  exact Rd.nil _ _ _
 ·rw [if_neg hc, Nat.mul_one]
  by_cases h0 : n = 0
  ·have e : n - j = 0 := by omega
   have e2 : zs.drop j = [] := List.drop_eq_nil_of_le (by rw [h.len]; omega)
   rw [e, e2]
   exact Rd.nil _ _ _
  ·obtain ⟨b, off, rfl, -⟩ := h.cell (by omega)
   have := h.drop hj
   have e : (⟨b, off, none⟩ : Addr).add j = ⟨b, off + j, none⟩ := by unfold Addr.add; split <;> simp_all
   rw [Option.map_some, e]
   exact this
theorem fcell {W w1 : World} (hb : Below W.heap.size W w1) : (∀ b o, b < W.heap.size → w1.cell? ⟨b, o, none⟩ = W.cell? ⟨b, o, none⟩) ∧ (∀ b o, b < W.heap.size → w1.frozen? ⟨b, o, none⟩ = W.frozen? ⟨b, o, none⟩) :=
 ⟨fun b o h => hb.cell (p := ⟨b, o, none⟩) h, fun b o h => hb.frozen (p := ⟨b, o, none⟩) h⟩
theorem below_cell {w w' : World} {b o : Nat} {u : Value} (hb : Below w.heap.size w w') (h : w.cell? ⟨b, o, none⟩ = some u) : w'.cell? ⟨b, o, none⟩ = some u :=
 (hb.cell (World.block_lt_of_cell? w _ h)).trans h
theorem box_cell {w : World} {cs : Array Value} {T : TypeId} (o : Nat) (u : Value) (h : cs[o]? = some u) : (w.alloc (.cells cs T)).cell? ⟨w.heap.size, o, none⟩ = some u := by
 rw [cell_of_row _ w.heap.size o _ T (0, 0) (heap_alloc_new w _)]
 exact h
theorem below_row {w w' : World} {base : Nat} {e : TypeId} {size : Nat} {v : Value} {n : Nat} {xs : List Value} (h : w.ownsRow base e size v n xs) (hb : Below w.heap.size w w') : w'.ownsRow base e size v n xs :=
 h.kept (row := none) ⟨hb.os, hb.tape, hb.output, hb.size, fun i hi _ => hb.block i hi⟩ (by cases v.ownBlock <;> simp)
theorem below_drewN {B : Nat} {a w : World} (h : Below B a w) (n : Nat) : Below B a (w.drewN n) := ⟨h.os, h.tape, h.output, h.size, h.block⟩
end Go.Proofs.Ytdbgaccnejffpaa.Tree

namespace Go.Proofs.Ytdbgaccnejffpaa.Tree
open Go.RowKit Go.Proofs.Ytdbgaccnejffpaa.Ints
abbrev SNd := Nd × Option Addr × Nat
def cellsS (s : SNd) : List Value := [.int .i64 s.1.kind, .string s.1.name, .int .i64 s.1.lo, .int .i64 s.1.hi, .slice s.2.1 s.1.kids.length s.2.2]
def rowS (l : List SNd) : List Value := l.flatMap cellsS
def KidOk (S : Nat → Prop) (w : World) (s : SNd) : Prop := NodeOk w s.1 s.2.1 s.2.2 ∧ ∀ a, s.2.1 = some a → 0 < s.1.kids.length → S a.block
theorem KidOk.keep {S : Nat → Prop} {w w' : World} {s : SNd} (h : KidOk S w s) (hk : ∀ p u, S p.block → w.cell? p = some u → w'.cell? p = some u) : KidOk S w' s := by
 obtain ⟨⟨h5, h6, h7, h8, h10, h11, h12⟩, h14⟩ := h
 refine ⟨⟨h5, h6, h7, h8, ⟨h10.1, h10.2.1, fun h0 => ?_⟩, h11, h12⟩, h14⟩
 obtain ⟨b', off, e, hc⟩ := h10.2.2 h0
 exact ⟨b', off, e, fun j hj => hk ⟨b', off + j, none⟩ _ (h14 ⟨b', off, none⟩ e h0) (hc j hj)⟩
theorem KidOk.mono {S S' : Nat → Prop} {w : World} {s : SNd} (h : KidOk S w s) (hs : ∀ b, b < w.heap.size → S b → S' b) : KidOk S' w s := by
 obtain ⟨⟨h5, h6, h7, h8, h10, h11, h12⟩, h14⟩ := h
 refine ⟨⟨h5, h6, h7, h8, h10, h11, h12⟩, fun a e h0 => ?_⟩
 obtain ⟨b', off, e', hc⟩ := h10.2.2 h0
 rw [e] at e'
 injection e' with e'
 subst e'
 exact hs _ (World.block_lt_of_cell? w _ (hc 0 h0)) (h14 _ e h0)
theorem KidOk.below {S : Nat → Prop} {w w' : World} {s : SNd} (h : KidOk S w s) (hb : Below w.heap.size w w') : KidOk S w' s :=
 h.keep fun p _ _ hp => (hb.cell (World.block_lt_of_cell? w p hp)).trans hp
theorem rowS_len (l : List SNd) : (rowS l).length = l.length * 5 := by
 induction l with
 | nil => rfl
 | cons t l ih =>
  simp only [rowS, List.flatMap_cons, List.length_append, List.length_cons] at ih ⊢
  rw [ih]
  show 5 + l.length * 5 = (l.length + 1) * 5
  omega
theorem rowS_append (l m : List SNd) : rowS (l ++ m) = rowS l ++ rowS m := List.flatMap_append
theorem rowS_at : ∀ (l : List SNd) (j : Nat) (t : SNd), l[j]? = some t → ∀ f, f < 5 → (rowS l)[5 * j + f]? = (cellsS t)[f]?
 | [], j, t, h, _, _ => by simp at h
 | x :: l, 0, t, h, f, hf => by
  simp only [List.getElem?_cons_zero, Option.some.injEq] at h
  subst h
  show (cellsS x ++ rowS l)[5 * 0 + f]? = _
  rw [Nat.mul_zero, Nat.zero_add, List.getElem?_append_left (by exact hf)]
 | x :: l, j + 1, t, h, f, hf => by
  have ih := rowS_at l j t (by simpa using h) f hf
  show (cellsS x ++ rowS l)[5 * (j + 1) + f]? = _
  rw [List.getElem?_append_right (by show 5 ≤ _; omega), ← ih]
  congr 1
  show 5 * (j + 1) + f - 5 = _
  omega
theorem cellsS_one (t : SNd) : ∀ u ∈ cellsS t, u.oneCell' = true := by
 intro u hu
 simp only [cellsS, List.mem_cons, List.not_mem_nil, or_false] at hu
 rcases hu with rfl | rfl | rfl | rfl | rfl <;> rfl
theorem rowS_one (l : List SNd) : ∀ u ∈ rowS l, u.oneCell' = true := by
 intro u hu
 obtain ⟨s, -, hs⟩ := List.mem_flatMap.1 hu
 exact cellsS_one s u hs
def OwnNodes (S : Nat → Prop) (w : World) (base : Nat) (v : Value) (l : List SNd) : Prop :=
 w.ownsRow base 52 5 v l.length (rowS l) ∧ ∀ s ∈ l, KidOk (fun b => S b ∧ some b ≠ v.ownBlock) w s
theorem OwnNodes.made (S : Nat → Prop) (w : World) (base : Nat) (hb : base ≤ w.heap.size) : OwnNodes S (w.alloc (.cells #[] 52)) base (.slice (some ⟨w.heap.size, 0, none⟩) 0 0) [] :=
 ⟨World.ownsRow_made w #[] 0 hb (by decide) rfl, fun s hs => by simp at hs⟩
theorem OwnNodes.keep {S : Nat → Prop} {w w' : World} {base : Nat} {v : Value} {l : List SNd} {row : Option Nat} (h : OwnNodes S w base v l) (hg : w.grownBy w' row) (hne : v.ownBlock = none ∨ v.ownBlock ≠ row) (hs : ∀ b, S b → some b ≠ row) : OwnNodes S w' base v l :=
 ⟨h.1.kept hg hne, fun s hs' => (h.2 s hs').keep fun _ _ hp hc => hg.cell hc (hs _ hp.1)⟩
theorem OwnNodes.below {S : Nat → Prop} {w w' : World} {base : Nat} {v : Value} {l : List SNd} (h : OwnNodes S w base v l) (hb : Below w.heap.size w w') : OwnNodes S w' base v l :=
 ⟨below_row h.1 hb, fun s hs => (h.2 s hs).below hb⟩
theorem OwnNodes.mono {S S' : Nat → Prop} {w : World} {base : Nat} {v : Value} {l : List SNd} (h : OwnNodes S w base v l) (hs : ∀ b, b < w.heap.size → S b → S' b) : OwnNodes S' w base v l :=
 ⟨h.1, fun s hs' => (h.2 s hs').mono fun b hb hp => ⟨hs b hb hp.1, hp.2⟩⟩
theorem OwnNodes.reads {S : Nat → Prop} {w : World} {base : Nat} {v : Value} {l : List SNd} (h : OwnNodes S w base v l) (hS : ∀ b, base ≤ b → b < w.heap.size → S b) :
  ∃ A c, v = .slice A l.length c ∧ Nodes S w A (l.map (·.1)) ∧ l.length ≤ c ∧ c ≤ maxLen := by
 obtain ⟨h1, h2⟩ := h
 have hlt := h1.lt
 have h1' := h1
 rcases h1.2 with ⟨rfl, h0⟩ | ⟨g, cap, cur, rfl, _, _, h3, h4, _⟩
 ·exact ⟨none, 0, by rw [h0], fun hp => by simp at hp; omega, by omega, by decide⟩
 ·refine ⟨_, cap, rfl, fun _ => ⟨g, 0, rfl, fun j n hj => ?_⟩, h3, h4⟩
  rw [List.getElem?_map] at hj
  obtain ⟨s, hs, rfl⟩ := Option.map_eq_some_iff.1 hj
  have hjl : j < l.length := (List.getElem?_eq_some_iff.1 hs).1
  have key : ∀ f, f < 5 → w.cell? ⟨g, 0 + 5 * j + f, none⟩ = (cellsS s)[f]? := fun f hf => by
   rw [Nat.zero_add, h1'.cellAt (5 * j + f) (by omega)]
   exact rowS_at l j s hs f hf
  obtain ⟨⟨k5, k6, k7, k8, k10, k11, k12⟩, k14⟩ := h2 s (List.mem_of_getElem? hs)
  have hg := hlt g rfl
  exact ⟨key 0 (by omega), key 1 (by omega), key 2 (by omega), key 3 (by omega), k5, k6, k7, k8, s.2.1, s.2.2, key 4 (by omega), k10, k11, k12, hS _ hg.1 hg.2, fun a e h0 => (k14 a e h0).1⟩
theorem Nodes.stored {S : Nat → Prop} {w : World} {A : Option Addr} {l : List Nd} (h : Nodes S w A l) :
  ∃ σ : List SNd, σ.map (·.1) = l ∧ (∀ s ∈ σ, KidOk S w s) ∧ (0 < l.length → ∃ b off, A = some ⟨b, off, none⟩ ∧ S b ∧ ∀ (j : Nat) (s : SNd), σ[j]? = some s → ∀ f, f < 5 → w.cell? ⟨b, off + 5 * j + f, none⟩ = (cellsS s)[f]?) := by
 by_cases h0 : 0 < l.length
 ·obtain ⟨b, off, rfl, hn⟩ := h h0
  have one : ∀ (l' : List Nd) (i : Nat), (∀ j n, l'[j]? = some n → NodeAt S w b (off + 5 * (i + j)) n) →
    ∃ σ : List SNd, σ.map (·.1) = l' ∧ (∀ s ∈ σ, KidOk S w s) ∧ ∀ (j : Nat) (s : SNd), σ[j]? = some s → ∀ f, f < 5 → w.cell? ⟨b, off + 5 * (i + j) + f, none⟩ = (cellsS s)[f]? := by
   intro l'
   induction l' with
   | nil => intro i _; exact ⟨[], rfl, fun s hs => by simp at hs, fun j s hs => by simp at hs⟩
   | cons n l' ih =>
    intro i hi
    obtain ⟨σ, e1, e2, e3⟩ := ih (i + 1) (fun j x hj => by rw [show i + 1 + j = i + (j + 1) by omega]; exact hi (j + 1) x (by simpa using hj))
    obtain ⟨x0, x1, x2, x3, s0, s2, s3, s1, K, c, x4, hK, hKc, hcK, hb, hKs⟩ := hi 0 n rfl
    refine ⟨(n, K, c) :: σ, by rw [List.map_cons, e1], fun s hs => ?_, fun j s hj f hf => ?_⟩
    ·rcases List.mem_cons.1 hs with rfl | hs
     ·exact ⟨⟨s0, s2, s3, s1, hK, hKc, hcK⟩, hKs⟩
     ·exact e2 s hs
    ·cases j with
     | zero =>
      simp only [List.getElem?_cons_zero, Option.some.injEq] at hj
      subst hj
      match f, hf with
      | 0, _ => exact x0
      | 1, _ => exact x1
      | 2, _ => exact x2
      | 3, _ => exact x3
      | 4, _ => exact x4
     | succ j =>
      rw [show i + (j + 1) = i + 1 + j by omega]
      exact e3 j s (by simpa using hj) f hf
  obtain ⟨σ, e1, e2, e3⟩ := one l 0 (fun j n hj => by rw [Nat.zero_add]; exact hn j n hj)
  obtain ⟨n, hn0⟩ : ∃ n, l[0]? = some n := ⟨_, List.getElem?_eq_getElem h0⟩
  obtain ⟨-, -, -, -, -, -, -, -, -, -, -, -, -, -, hb, -⟩ := hn 0 n hn0
  exact ⟨σ, e1, e2, fun _ => ⟨b, off, rfl, hb, fun j s hs f hf => by have := e3 j s hs f hf; rwa [Nat.zero_add] at this⟩⟩
 ·have : l = [] := List.eq_nil_of_length_eq_zero (by omega)
  subst this
  exact ⟨[], rfl, fun s hs => by simp at hs, fun h => absurd h h0⟩
theorem infoNode : (Try.prog.info? 52).map (fun i => (i.zero, i.size, i.bytes)) = some (some (.agg #[.int .i64 0, .string { data := #[] }, .int .i64 0, .int .i64 0, .slice none 0 0]), 5, 64) := by kernel_rfl
theorem own_grown {S : Nat → Prop} {w1 w' : World} {base : Nat} {v v' : Value} {σ τ : List SNd} (h2 : ∀ s ∈ σ, KidOk (fun b => S b ∧ some b ≠ v.ownBlock) w1 s) (k2 : ∀ s ∈ τ, KidOk (fun b => S b ∧ some b ≠ v.ownBlock) w1 s)
  (hr : w'.ownsRow base 52 5 v' (σ ++ τ).length (rowS (σ ++ τ))) (hg : w1.grownBy w' v.ownBlock) (hat : v'.ownBlock = v.ownBlock ∨ v'.ownBlock = some w1.heap.size) : OwnNodes S w' base v' (σ ++ τ) := by
 refine ⟨hr, fun s hs => ?_⟩
 have h3 : KidOk (fun b => S b ∧ some b ≠ v.ownBlock) w1 s := (List.mem_append.1 hs).elim (h2 s) (k2 s)
 have h4 := (h3.mono (S' := fun b => (S b ∧ some b ≠ v.ownBlock) ∧ b < w1.heap.size) fun b hb hp => ⟨hp, hb⟩).keep (w' := w') fun _ _ hp hc => hg.cell hc hp.1.2
 exact h4.mono fun b _ hp => ⟨hp.1.1, by
  rcases hat with e | e
  ·rw [e]; exact hp.1.2
  ·rw [e]; intro e2; injection e2 with e2; omega⟩
section
variable {P : Program} {w : World}
theorem wpList_append_nd {ops : Array Oper} {rest : List Oper} {o : Oper} {a : Act} {Q : Exit → Act → World → Prop} (hgd : o.guard = none) (s x : Operand) (t : TypeId)
  (ho : o.op = .call { callee := .builtin .append, args := #[s, x], argTypes := #[t, t] }) (base : Nat) (i : TypeInfo) (z : Value)
  (ht : P.underlying t = some (.slice 52)) (hi : P.info? 52 = some i) (hz : i.zero = some z) (hsize : i.size = 5) (hby : i.bytes = 64) (hzs : z.cells.size = 5)
  (v : Value) (l : List SNd) (hs : a.eval s = v) (S : Nat → Prop) (hown : OwnNodes S w base v l)
  (sn : SNd) (hk : KidOk (fun b => S b ∧ some b ≠ v.ownBlock) w sn) (T : TypeId) (cs : Array Value) (hcs : cs = (cellsS sn).toArray) (H : Nat) (hH : w.heap.size = H) (hx : a.eval x = .slice (some ⟨H, 0, none⟩) 1 1)
  (hl : l.length ≤ 4194304) (hbase : base ≤ w.heap.size)
  (h : ∀ v' w', OwnNodes S w' base v' (l ++ [sn]) → (w.alloc (.cells cs T)).grownBy w' v.ownBlock → (v'.ownBlock = v.ownBlock ∨ v'.ownBlock = some (w.alloc (.cells cs T)).heap.size) → wpList P ops Q rest (a.put o.dst v') w') : wpList P ops Q (o :: rest) a (w.alloc (.cells cs T)) := by
 subst hcs
 subst hH
 refine wpList_plain hgd fun K hK => ?_
 obtain ⟨v', w', hrun, h1, h2, -, h4⟩ := run_append_own_at (P := P) (w.alloc (.cells (cellsS sn).toArray T)) base t o.type 52 i z 5 64 ht hi hz hsize hby hzs (by decide) v l.length (rowS l) (hown.1.alloc _) ⟨w.heap.size, 0, none⟩ 1 1 (cellsS sn) rfl (fun j u hu => by
   rw [show (⟨w.heap.size, 0, none⟩ : Addr).add j = ⟨w.heap.size, j, none⟩ by unfold Addr.add; split <;> simp_all]
   rw [cell_of_row _ w.heap.size j _ T (0, 0) (heap_alloc_new w _)]
   simpa using hu) (cellsS_one sn) (by have : maxLen = 9223372036854775807 := rfl; omega) (by omega) (by simp; omega)
 unfold Oper.wp
 simp [execOp, ho, resolve, invoke, builtin, hs, hx, hrun, Result.andThen]
 refine hK _ _ (h v' w' (own_grown (w1 := w.alloc (.cells (cellsS sn).toArray T)) (fun s hs => (hown.2 s hs).below ((Below.refl _ _).alloc (Nat.le_refl _) _)) (fun s hs => by rw [List.mem_singleton.1 hs]; exact hk.below ((Below.refl _ _).alloc (Nat.le_refl _) _)) ?_ h2 h4) h2 h4)
 rw [rowS_append, List.length_append]
 have e : rowS [sn] = cellsS sn := by simp [rowS]
 rw [e]
 exact h1
theorem wpList_append_nds {ops : Array Oper} {rest : List Oper} {o : Oper} {a : Act} {Q : Exit → Act → World → Prop} (hgd : o.guard = none) (s x : Operand) (t : TypeId)
  (ho : o.op = .call { callee := .builtin .append, args := #[s, x], argTypes := #[t, t] }) (base : Nat) (i : TypeInfo) (z : Value)
  (ht : P.underlying t = some (.slice 52)) (hi : P.info? 52 = some i) (hz : i.zero = some z) (hsize : i.size = 5) (hby : i.bytes = 64) (hzs : z.cells.size = 5)
  (v : Value) (l : List SNd) (hs : a.eval s = v) (S : Nat → Prop) (hown : OwnNodes S w base v l)
  (A : Option Addr) (n c : Nat) (m : List Nd) (hm : m.length = n) (hx : a.eval x = .slice A n c) (hnd : Nodes (fun b => S b ∧ some b ≠ v.ownBlock) w A m)
  (hl : l.length + n ≤ 4194304) (hbase : base ≤ w.heap.size)
  (h : ∀ v' w' τ, τ.map (·.1) = m → OwnNodes S w' base v' (l ++ τ) → w.grownBy w' v.ownBlock → (v'.ownBlock = v.ownBlock ∨ v'.ownBlock = some w.heap.size) → wpList P ops Q rest (a.put o.dst v') w') : wpList P ops Q (o :: rest) a w := by
 obtain ⟨τ, e1, e2, e3⟩ := hnd.stored
 have hτ : τ.length = n := by rw [← hm, ← e1, List.length_map]
 refine wpList_plain hgd fun K hK => ?_
 cases A with
 | some ad =>
  have hnews : ∀ j u, (rowS τ)[j]? = some u → w.cell? (ad.add j) = some u := fun j u hu => by
   have hj : j < (rowS τ).length := (List.getElem?_eq_some_iff.1 hu).1
   rw [rowS_len] at hj
   obtain ⟨b, off, e, -, hc⟩ := e3 (by omega)
   injection e with e
   subst e
   have hq : j / 5 < τ.length := by omega
   have h1 := hc (j / 5) _ (List.getElem?_eq_getElem hq) (j % 5) (Nat.mod_lt _ (by decide))
   have h2 : (⟨b, off, none⟩ : Addr).add j = ⟨b, off + 5 * (j / 5) + j % 5, none⟩ := by
    have : off + j = off + 5 * (j / 5) + j % 5 := by omega
    rw [← this]
    unfold Addr.add; split <;> simp_all
   rw [h2, h1, ← rowS_at τ (j / 5) _ (List.getElem?_eq_getElem hq) (j % 5) (Nat.mod_lt _ (by decide)), ← hu]
   congr 1
   omega
  obtain ⟨v', w', hrun, h1, h2, -, h4⟩ := run_append_own_at (P := P) w base t o.type 52 i z 5 64 ht hi hz hsize hby hzs (by decide) v l.length (rowS l) hown.1 ad n c (rowS τ) (by rw [rowS_len, hτ]) hnews (rowS_one τ) (by have : maxLen = 9223372036854775807 := rfl; omega) (by omega) hbase
  unfold Oper.wp
  simp [execOp, ho, resolve, invoke, builtin, hs, hx, hrun, Result.andThen]
  refine hK _ _ (h v' w' τ e1 (own_grown (w1 := w) hown.2 e2 ?_ h2 h4) h2 h4)
  rw [rowS_append, List.length_append, hτ]
  exact h1
 | none =>
  have hn0 : n = 0 := by
   rcases Nat.eq_zero_or_pos n with h' | h'
   ·exact h'
   ·obtain ⟨_, _, e, _⟩ := e3 (by omega)
    cases e
  subst hn0
  have hτ0 : τ = [] := List.eq_nil_of_length_eq_zero hτ
  subst hτ0
  have hrun : (Builtin.append_ #[t, t] o.type #[v, .slice none 0 c]).run P w = .ok v w := by
   rcases hown.1.2 with ⟨rfl, -⟩ | ⟨g, cap, cur, rfl, _, _, hnc, _⟩
   ·simp [Builtin.append_, run_underlying ht, sizeOf, typeInfo, hi, Builtin.lenOf, Builtin.firstCells]
   ·simp [Builtin.append_, run_underlying ht, sizeOf, typeInfo, hi, Builtin.lenOf, Builtin.firstCells, hnc, storeCells]
  unfold Oper.wp
  simp [execOp, ho, resolve, invoke, builtin, hs, hx, hrun, Result.andThen]
  exact hK _ _ (h v w [] e1 (by rw [List.append_nil]; exact hown) (World.grownBy.refl w _) (Or.inl rfl))
end
end Go.Proofs.Ytdbgaccnejffpaa.Tree

namespace Go.Proofs.Ytdbgaccnejffpaa.Tree
deriving instance DecidableEq for Nd
theorem le_alloc {a : Nat} {w : World} {o : Obj} (h : a ≤ w.heap.size) : a ≤ (w.alloc o).heap.size := by simp; omega
end Go.Proofs.Ytdbgaccnejffpaa.Tree

/- Tokens in plain lists of bytes. By an AI agent. -/
namespace Go.Proofs.Ytdbgaccnejffpaa.Lex
def small (c : UInt8) : Bool := decide (97 ≤ c.toNat ∧ c.toNat ≤ 122)
def digit (c : UInt8) : Bool := decide (48 ≤ c.toNat ∧ c.toNat ≤ 57)
def wordB (c : UInt8) : Bool := digit c || small c || decide (c.toNat = 95)
def run (words : Bool) (bs : List UInt8) : Nat := (bs.takeWhile (if words then wordB else digit)).length
def reserved : List (List UInt8) := [[116, 114, 117, 101], [102, 97, 108, 115, 101], [112, 114, 101, 118], [110, 101, 120, 116], [111, 110, 99, 101], [104, 105, 115, 116], [115, 111, 109, 101], [97, 108, 108], [115, 105, 110, 99, 101], [117, 110, 116, 105, 108], [98, 97, 99, 107], [102, 111, 114, 101]]
def nameS (bs : List UInt8) : Bool :=
 match bs with
 | [] => false
 | c :: r => decide (r.length + 1 ≤ 16) && small c && decide (run true (c :: r) = r.length + 1) && !(decide (c :: r ∈ reserved))
end Go.Proofs.Ytdbgaccnejffpaa.Lex
/- Tokens in plain lists of bytes: blanks, numbers, the laws' own texts. By an AI agent. -/
namespace Go.Proofs.Ytdbgaccnejffpaa.Lex
def table : List (List UInt8 × Nat × List UInt8 × Nat) :=
 [([97], 1, [97], 0), ([98, 50], 1, [98, 50], 0), ([111, 110, 99, 101], 1, [111, 110, 99, 101], 0), ([115, 105, 110, 99, 101], 1, [115, 105, 110, 99, 101], 0), ([102, 111, 114, 101], 1, [102, 111, 114, 101], 0),
  ([48], 2, [], 0), ([55], 2, [], 7), ([57, 57, 57, 57], 2, [], 9999), ([45, 62], 3, [45, 62], 0), ([40], 3, [40], 0), ([41], 3, [41], 0), ([91], 3, [91], 0), ([93], 3, [93], 0), ([123], 3, [123], 0), ([125], 3, [125], 0),
  ([44], 3, [44], 0), ([42], 3, [42], 0), ([46], 3, [46], 0), ([63], 3, [63], 0), ([43], 3, [43], 0), ([59], 3, [59], 0), ([33], 3, [33], 0), ([38], 3, [38], 0), ([124], 3, [124], 0), ([120, 95, 121], 1, [120, 95, 121], 0), ([116, 114, 117, 101], 1, [116, 114, 117, 101], 0)]
def pick (n : Nat) : List UInt8 × Nat × List UInt8 × Nat := table.getD (n % 26) ([97], 1, [97], 0)
end Go.Proofs.Ytdbgaccnejffpaa.Lex
/- Tokens in plain lists of bytes: a number as it is written; one word, blanks alone. By an AI agent. -/
namespace Go.Proofs.Ytdbgaccnejffpaa.Lex
end Go.Proofs.Ytdbgaccnejffpaa.Lex
/- Tokens in plain lists of bytes: what each branch of a walk says of the piece that begins. By an AI agent. -/
namespace Go.Proofs.Ytdbgaccnejffpaa.Lex
end Go.Proofs.Ytdbgaccnejffpaa.Lex
/- Rows of tokens in memory: append of one; what a walk reads. By an AI agent. -/
namespace Go.Proofs.Ytdbgaccnejffpaa.Lex
open Go.RowKit
def bytes (l : List UInt8) : ByteArray := ⟨l.toArray⟩
section
variable {P : Program} {w : World}
end
end Go.Proofs.Ytdbgaccnejffpaa.Lex
/- Texts, byte by byte: what the walks share. By an AI agent. -/
namespace Go.Proofs.Ytdbgaccnejffpaa.Lex
open Go.RowKit
theorem drop_get (s : ByteArray) (q : Nat) (h : q < s.size) : s.data.toList.drop q = s[q] :: s.data.toList.drop (q + 1) := by
 have hl : q < s.data.toList.length := by rw [Array.length_toList]; exact h
 rw [List.drop_eq_getElem_cons hl]
 rfl
theorem drop_end (s : ByteArray) (q : Nat) (h : s.size ≤ q) : s.data.toList.drop q = [] := List.drop_eq_nil_of_le (by rw [Array.length_toList]; exact h)
end Go.Proofs.Ytdbgaccnejffpaa.Lex
/- The walks of the reference's small, digit and run. By an AI agent. -/
namespace Go.Proofs.Ytdbgaccnejffpaa.Lex
open Go.RowKit
end Go.Proofs.Ytdbgaccnejffpaa.Lex
/- The walks of the reference's Reserved and Name. By an AI agent. -/
namespace Go.Proofs.Ytdbgaccnejffpaa.Lex
open Go.RowKit
end Go.Proofs.Ytdbgaccnejffpaa.Lex
