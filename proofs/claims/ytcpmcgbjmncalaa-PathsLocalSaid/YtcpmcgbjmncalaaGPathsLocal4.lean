/-
  Lists of nodes in memory; what a list of nodes that came in reads as; spans compared by value; a slice from a place on. By an AI agent.
-/
import Derived.Test.YtcpmcgbjmncalaaChecked
import Derived.WalkKit
import Derived.WalkSpells
import Derived.Below
import Derived.Lib.Hide
import Derived.Test.YtcpmcgbjmncalaaGPathsLocal1
import Derived.Deep.Slices
import Derived.Deep.Fields
import Derived.ChangeSame
import Derived.ChangeArms
import Derived.ChangeSlices
import Derived.Laws.StructEq
import Derived.IntWalk
import Derived.Deep.QuietTactic
import Derived.BigQuiet
/- Lists of nodes in memory; what a list of nodes that came in reads as. By an AI agent. -/
namespace Go.Proofs.Ytcpmcgbjmncalaa.Tree
open Go.RowKit Go.ChangeShapes Go.WideShapes Go.Deep Go.Proofs.Ytcpmcgbjmncalaa.Ints

/-- A node. -/
structure Nd where
  kind : Int
  name : ByteArray
  lo : Int
  hi : Int
  kids : List Int

def small64 (x : Int) : Prop := -9223372036854775808 ≤ x ∧ x ≤ 9223372036854775807
/-- Any block. -/
def Any : Nat → Prop := fun _ => True
/-- The five cells of a node, in blocks of S. -/
def NodeAt (S : Nat → Prop) (w : World) (b o : Nat) (n : Nd) : Prop :=
  w.cell? ⟨b, o, none⟩ = some (.int .i64 n.kind) ∧ w.cell? ⟨b, o + 1, none⟩ = some (.string n.name) ∧ w.cell? ⟨b, o + 2, none⟩ = some (.int .i64 n.lo) ∧ w.cell? ⟨b, o + 3, none⟩ = some (.int .i64 n.hi) ∧
    small64 n.kind ∧ small64 n.lo ∧ small64 n.hi ∧ n.name.size ≤ maxLen ∧
    ∃ (K : Option Addr) (c : Nat), w.cell? ⟨b, o + 4, none⟩ = some (.slice K n.kids.length c) ∧ Rd .i64 w K n.kids.length n.kids ∧ n.kids.length ≤ c ∧ c ≤ maxLen ∧ S b ∧ (∀ a, K = some a → 0 < n.kids.length → S a.block)
theorem NodeAt.keep {S : Nat → Prop} {w w' : World} {b o : Nat} {n : Nd} (h : NodeAt S w b o n) (hk : ∀ p u, S p.block → w.cell? p = some u → w'.cell? p = some u) : NodeAt S w' b o n := by
  obtain ⟨h1, h2, h3, h4, h5, h6, h7, h8, K, c, h9, h10, h11, h12, h13, h14⟩ := h
  refine ⟨hk _ _ h13 h1, hk _ _ h13 h2, hk _ _ h13 h3, hk _ _ h13 h4, h5, h6, h7, h8, K, c, hk _ _ h13 h9, ⟨h10.1, h10.2.1, fun h0 => ?_⟩, h11, h12, h13, h14⟩
  obtain ⟨b', off, e, hc⟩ := h10.2.2 h0
  exact ⟨b', off, e, fun j hj => hk ⟨b', off + j, none⟩ _ (h14 ⟨b', off, none⟩ e h0) (hc j hj)⟩
theorem NodeAt.mono {S S' : Nat → Prop} {w : World} {b o : Nat} {n : Nd} (h : NodeAt S w b o n) (hs : ∀ b, b < w.heap.size → S b → S' b) : NodeAt S' w b o n := by
  obtain ⟨h1, h2, h3, h4, h5, h6, h7, h8, K, c, h9, h10, h11, h12, h13, h14⟩ := h
  refine ⟨h1, h2, h3, h4, h5, h6, h7, h8, K, c, h9, h10, h11, h12, hs _ (World.block_lt_of_cell? w _ h1) h13, fun a e h0 => ?_⟩
  obtain ⟨b', off, e', hc⟩ := h10.2.2 h0
  subst e
  injection e' with e'
  subst e'
  exact hs _ (World.block_lt_of_cell? w _ (hc 0 h0)) (h14 _ rfl h0)
theorem NodeAt.below {S : Nat → Prop} {w w' : World} {b o : Nat} {n : Nd} (h : NodeAt S w b o n) (hb : Below w.heap.size w w') : NodeAt S w' b o n :=
  h.keep fun p _ _ hp => (hb.cell (World.block_lt_of_cell? w p hp)).trans hp
/-- The slice of address A reads as the nodes l, in blocks of S. -/
def Nodes (S : Nat → Prop) (w : World) (A : Option Addr) (l : List Nd) : Prop :=
  0 < l.length → ∃ b off, A = some ⟨b, off, none⟩ ∧ ∀ (j : Nat) (n : Nd), l[j]? = some n → NodeAt S w b (off + 5 * j) n
theorem Nodes.keep {S : Nat → Prop} {w w' : World} {A : Option Addr} {l : List Nd} (h : Nodes S w A l) (hk : ∀ p u, S p.block → w.cell? p = some u → w'.cell? p = some u) : Nodes S w' A l := fun h0 => by
  obtain ⟨b, off, h1, h2⟩ := h h0
  exact ⟨b, off, h1, fun j n hn => (h2 j n hn).keep hk⟩
theorem Nodes.mono {S S' : Nat → Prop} {w : World} {A : Option Addr} {l : List Nd} (h : Nodes S w A l) (hs : ∀ b, b < w.heap.size → S b → S' b) : Nodes S' w A l := fun h0 => by
  obtain ⟨b, off, h1, h2⟩ := h h0
  exact ⟨b, off, h1, fun j n hn => (h2 j n hn).mono hs⟩
theorem Nodes.any {S : Nat → Prop} {w : World} {A : Option Addr} {l : List Nd} (h : Nodes S w A l) : Nodes Any w A l := h.mono fun _ _ _ => trivial
theorem Nodes.below {S : Nat → Prop} {w w' : World} {A : Option Addr} {l : List Nd} (h : Nodes S w A l) (hb : Below w.heap.size w w') : Nodes S w' A l :=
  h.keep fun p _ _ hp => (hb.cell (World.block_lt_of_cell? w p hp)).trans hp
theorem Nodes.nil (S : Nat → Prop) (w : World) (A : Option Addr) : Nodes S w A [] := fun h => by simp at h

theorem structSpan : Try.prog.underlying 40 = some (.struct (Try.prog.fieldsOf 40)) := by kernel_rfl
section
variable {H : Type} {enc : TypeId × Value → H} {w : World}
/-- What a node's values are good for. -/
def NodeOk (w : World) (n : Nd) (K : Option Addr) (c : Nat) : Prop :=
  small64 n.kind ∧ small64 n.lo ∧ small64 n.hi ∧ n.name.size ≤ maxLen ∧ Rd .i64 w K n.kids.length n.kids ∧ n.kids.length ≤ c ∧ c ≤ maxLen
end
end Go.Proofs.Ytcpmcgbjmncalaa.Tree

/- Spans compared by value; a slice from a place on. By an AI agent. -/
namespace Go.Proofs.Ytcpmcgbjmncalaa.Tree
open Go.RowKit Go.Proofs.Ytcpmcgbjmncalaa.Ints

theorem fieldsSpan3 : (Try.prog.fieldsOf 40).toList.map (fun f => (f.name, f.type, f.offset)) = [("Lo", 3, 0), ("Hi", 3, 1)] := by kernel_rfl
theorem stoodSpan : Try.prog.stoodInHeld 40 = false := by kernel_rfl
theorem guardSpan : Try.prog.eqGuardType Try.prog.depth 40 = false := by kernel_rfl
theorem part_int {P : Program} (w : World) (t : TypeId) (cs : Array Value) (o : Nat) (v : Value) {k : IntKind} (ht : P.underlying t = some (.int k)) (hv : cs[o]? = some v) : (part t cs o).run P w = .ok v w := by
  simp [part, isAgg, run_underlying ht, hv]
set_option maxRecDepth 100000 in
theorem span_equal (a b c d : Int) (w : World) : (Op.equalIn 10000 40 (.agg #[.int .i64 a, .int .i64 b]) (.agg #[.int .i64 c, .int .i64 d])).run Try.prog w = .ok (decide (a = c ∧ b = d)) w := by
  rw [run_equalIn_struct w _ _ _ _ structSpan stoodSpan]
  generalize hfs : (Try.prog.fieldsOf 40).toList = fs
  have h := fieldsSpan3
  rw [hfs] at h
  match fs, h with
  | [f0, f1], h =>
    simp only [List.map_cons, List.map_nil, List.cons.injEq, Prod.mk.injEq, and_true] at h
    obtain ⟨⟨n0, t0, o0⟩, n1, t1, o1⟩ := h
    have q0 : ∀ (W : World) (x y : Value), (part 3 #[x, y] 0).run Try.prog W = .ok x W := fun W x y => part_int W _ _ 0 x Try.underlying3 rfl
    have q1 : ∀ (W : World) (x y : Value), (part 3 #[x, y] 1).run Try.prog W = .ok y W := fun W x y => part_int W _ _ 1 y Try.underlying3 rfl
    have e0 : ∀ (W : World) (x y : Int), (Op.equalIn 9999 3 (.int .i64 x) (.int .i64 y)).run Try.prog W = .ok (x == y) W := fun W x y => run_equalIn_int W 9998 _ .i64 .i64 x y Try.underlying3
    have hk : ∀ x y : Int, (x == y) = decide (x = y) := fun x y => by
      rw [Bool.eq_iff_iff, beq_iff_eq, decide_eq_true_iff]
    have hfin : decide (a = c ∧ b = d) = (decide (a = c) && decide (b = d)) := Bool.decide_and _ _
    rw [hfin]
    simp only [Op.eqFields, n0, t0, o0, n1, t1, o1, q0, q1, e0, hk, Sem.run_bind, Result.andThen_ok, ne_eq, String.reduceEq, not_false_eq_true, if_true, Sem.run_ite, Sem.run_pure]
    generalize decide (a = c) = b0
    generalize decide (b = d) = b1
    cases b0 <;> cases b1 <;> rfl
set_option maxRecDepth 100000 in
theorem span_eql (a b c d : Int) (w : World) : (binOp .eql 40 (.agg #[.int .i64 a, .int .i64 b]) (.agg #[.int .i64 c, .int .i64 d])).run Try.prog w = .ok (.bool (decide (a = c ∧ b = d))) w := by
  rw [run_eql_struct, span_equal]
  rfl

/-- Where a part of a slice begins. -/
def fromAddr (A : Option Addr) (cap k size : Nat) : Option Addr := if cap = k then A else A.map (·.add (k * size))
set_option maxRecDepth 100000 in
theorem slice_from {P : Program} (t : TypeId) (ht : P.underlying t = some (.slice (P.elem t))) (size : Nat) (hs : (P.info? (P.elem t)).map (·.size) = some size) (A : Option Addr) (n cap k : Nat) (hk : k ≤ n) (W : World) :
    (Instr.slice t (.slice A n cap) (some (.int .i64 (k : Int))) none none).run P W = .ok (.slice (fromAddr A cap k size) (n - k) (cap - k)) W := by
  rw [run_slice_l W t A n cap ht .i64 (k : Int) (by omega) (by omega)]
  obtain ⟨i, hi, hz⟩ := Option.map_eq_some_iff.1 hs
  simp [sizeOf, typeInfo, hi, hz, Result.andThen, sliced, fromAddr]
theorem Rd.from {k : IntKind} {w : World} {A : Option Addr} {n cap j : Nat} {zs : List Int} (h : Rd k w A n zs) (hn : n ≤ cap) (hj : j ≤ n) : Rd k w (fromAddr A cap j 1) (n - j) (zs.drop j) := by
  unfold fromAddr
  by_cases hc : cap = j
  · rw [if_pos hc]
    have e : n - j = 0 := by omega
    have e2 : zs.drop j = [] := List.drop_eq_nil_of_le (by rw [h.len]; omega)
    rw [e, e2]
    exact Rd.nil _ _ _
  · rw [if_neg hc, Nat.mul_one]
    by_cases h0 : n = 0
    · have e : n - j = 0 := by omega
      have e2 : zs.drop j = [] := List.drop_eq_nil_of_le (by rw [h.len]; omega)
      rw [e, e2]
      exact Rd.nil _ _ _
    · obtain ⟨b, off, rfl, -⟩ := h.cell (by omega)
      have := h.drop hj
      have e : (⟨b, off, none⟩ : Addr).add j = ⟨b, off + j, none⟩ := by unfold Addr.add; split <;> simp_all
      rw [Option.map_some, e]
      exact this
theorem fcell {W w1 : World} (hb : Below W.heap.size W w1) : (∀ b o, b < W.heap.size → w1.cell? ⟨b, o, none⟩ = W.cell? ⟨b, o, none⟩) ∧ (∀ b o, b < W.heap.size → w1.frozen? ⟨b, o, none⟩ = W.frozen? ⟨b, o, none⟩) :=
  ⟨fun b o h => hb.cell (p := ⟨b, o, none⟩) h, fun b o h => hb.frozen (p := ⟨b, o, none⟩) h⟩
/-- The cells of a node that lies in a box: two of them, behind whatever is laid later. -/
theorem below_cell {w w' : World} {b o : Nat} {u : Value} (hb : Below w.heap.size w w') (h : w.cell? ⟨b, o, none⟩ = some u) : w'.cell? ⟨b, o, none⟩ = some u :=
  (hb.cell (World.block_lt_of_cell? w _ h)).trans h
theorem box_cell {w : World} {cs : Array Value} {T : TypeId} (o : Nat) (u : Value) (h : cs[o]? = some u) : (w.alloc (.cells cs T)).cell? ⟨w.heap.size, o, none⟩ = some u := by
  rw [cell_of_row _ w.heap.size o _ T (0, 0) (heap_alloc_new w _)]
  exact h
theorem below_row {w w' : World} {base : Nat} {e : TypeId} {size : Nat} {v : Value} {n : Nat} {xs : List Value} (h : w.ownsRow base e size v n xs) (hb : Below w.heap.size w w') : w'.ownsRow base e size v n xs :=
  h.kept (row := none) ⟨hb.os, hb.tape, hb.output, hb.size, fun i hi _ => hb.block i hi⟩ (by cases v.ownBlock <;> simp)
theorem below_drewN {B : Nat} {a w : World} (h : Below B a w) (n : Nat) : Below B a (w.drewN n) := ⟨h.os, h.tape, h.output, h.size, h.block⟩
end Go.Proofs.Ytcpmcgbjmncalaa.Tree
