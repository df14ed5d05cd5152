/-
  Spans compared by value; a slice from a place on. By an AI agent.
-/
import Derived.Test.YtmahbocelckmcaaNodes
import Derived.WalkSpells
import Derived.Laws.StructEq
import Derived.IntWalk
import Derived.Deep.QuietTactic
import Derived.BigQuiet
namespace Go.Proofs.Ytmahbocelckmcaa.Tree
open Go.RowKit Go.Proofs.Ytmahbocelckmcaa.Ints

theorem fieldsSpan3 : (Try.prog.fieldsOf 30).toList.map (fun f => (f.name, f.type, f.offset)) = [("Lo", 3, 0), ("Hi", 3, 1)] := by kernel_rfl
theorem stoodSpan : Try.prog.stoodInHeld 30 = false := by kernel_rfl
theorem guardSpan : Try.prog.eqGuardType Try.prog.depth 30 = false := by kernel_rfl
theorem part_int {P : Program} (w : World) (t : TypeId) (cs : Array Value) (o : Nat) (v : Value) {k : IntKind} (ht : P.underlying t = some (.int k)) (hv : cs[o]? = some v) : (part t cs o).run P w = .ok v w := by
  simp [part, isAgg, run_underlying ht, hv]
set_option maxRecDepth 100000 in
theorem span_equal (a b c d : Int) (w : World) : (Op.equalIn 10000 30 (.agg #[.int .i64 a, .int .i64 b]) (.agg #[.int .i64 c, .int .i64 d])).run Try.prog w = .ok (decide (a = c ∧ b = d)) w := by
  rw [run_equalIn_struct w _ _ _ _ structSpan stoodSpan]
  generalize hfs : (Try.prog.fieldsOf 30).toList = fs
  have h := fieldsSpan3
  rw [hfs] at h
  match fs, h with
  | [f0, f1], h =>
    simp only [List.map_cons, List.map_nil, List.cons.injEq, Prod.mk.injEq, and_true] at h
    obtain ⟨⟨n0, t0, o0⟩, n1, t1, o1⟩ := h
    have q0 : ∀ (W : World) (x y : Value), (part 3 #[x, y] 0).run Try.prog W = .ok x W := fun W x y => part_int W _ _ 0 x Try.underlying3 rfl
    have q1 : ∀ (W : World) (x y : Value), (part 3 #[x, y] 1).run Try.prog W = .ok y W := fun W x y => part_int W _ _ 1 y Try.underlying3 rfl
    have e0 : ∀ (W : World) (x y : Int), (Op.equalIn 9999 3 (.int .i64 x) (.int .i64 y)).run Try.prog W = .ok (x == y) W := fun W x y => run_equalIn_int W 9998 _ .i64 .i64 x y Try.underlying3
    have hk : ∀ x y : Int, (x == y) = decide (x = y) := fun x y => by
      rw [Bool.eq_iff_iff, beq_iff_eq, decide_eq_true_iff]
    have hfin : decide (a = c ∧ b = d) = (decide (a = c) && decide (b = d)) := Bool.decide_and _ _
    rw [hfin]
    simp only [Op.eqFields, n0, t0, o0, n1, t1, o1, q0, q1, e0, hk, Sem.run_bind, Result.andThen_ok, ne_eq, String.reduceEq, not_false_eq_true, if_true, Sem.run_ite, Sem.run_pure]
    generalize decide (a = c) = b0
    generalize decide (b = d) = b1
    cases b0 <;> cases b1 <;> rfl
set_option maxRecDepth 100000 in
theorem span_neq (a b c d : Int) (w : World) : (binOp .neq 30 (.agg #[.int .i64 a, .int .i64 b]) (.agg #[.int .i64 c, .int .i64 d])).run Try.prog w = .ok (.bool (!(decide (a = c ∧ b = d)))) w := by
  rw [run_neq_struct, span_equal]
  rfl
set_option maxRecDepth 100000 in
theorem span_eql (a b c d : Int) (w : World) : (binOp .eql 30 (.agg #[.int .i64 a, .int .i64 b]) (.agg #[.int .i64 c, .int .i64 d])).run Try.prog w = .ok (.bool (decide (a = c ∧ b = d))) w := by
  rw [run_eql_struct, span_equal]
  rfl

/-- Where a part of a slice begins. -/
def fromAddr (A : Option Addr) (cap k size : Nat) : Option Addr := if cap = k then A else A.map (·.add (k * size))
set_option maxRecDepth 100000 in
theorem slice_from {P : Program} (t : TypeId) (ht : P.underlying t = some (.slice (P.elem t))) (size : Nat) (hs : (P.info? (P.elem t)).map (·.size) = some size) (A : Option Addr) (n cap k : Nat) (hk : k ≤ n) (W : World) :
    (Instr.slice t (.slice A n cap) (some (.int .i64 (k : Int))) none none).run P W = .ok (.slice (fromAddr A cap k size) (n - k) (cap - k)) W := by
  rw [run_slice_l W t A n cap ht .i64 (k : Int) (by omega) (by omega)]
  obtain ⟨i, hi, hz⟩ := Option.map_eq_some_iff.1 hs
  simp [sizeOf, typeInfo, hi, hz, Result.andThen, sliced, fromAddr]
theorem Rd.from {k : IntKind} {w : World} {A : Option Addr} {n cap j : Nat} {zs : List Int} (h : Rd k w A n zs) (hn : n ≤ cap) (hj : j ≤ n) : Rd k w (fromAddr A cap j 1) (n - j) (zs.drop j) := by
  unfold fromAddr
  by_cases hc : cap = j
  · rw [if_pos hc]
    have e : n - j = 0 := by omega
    have e2 : zs.drop j = [] := List.drop_eq_nil_of_le (by rw [h.len]; omega)
    rw [e, e2]
    exact Rd.nil _ _ _
  · rw [if_neg hc, Nat.mul_one]
    by_cases h0 : n = 0
    · have e : n - j = 0 := by omega
      have e2 : zs.drop j = [] := List.drop_eq_nil_of_le (by rw [h.len]; omega)
      rw [e, e2]
      exact Rd.nil _ _ _
    · obtain ⟨b, off, rfl, -⟩ := h.cell (by omega)
      have := h.drop hj
      have e : (⟨b, off, none⟩ : Addr).add j = ⟨b, off + j, none⟩ := by unfold Addr.add; split <;> simp_all
      rw [Option.map_some, e]
      exact this
theorem Rd.upto {k : IntKind} {w : World} {A : Option Addr} {n j : Nat} {zs : List Int} (h : Rd k w A n zs) (hj : j ≤ n) : Rd k w A j (zs.take j) := h.take hj
end Go.Proofs.Ytmahbocelckmcaa.Tree
