/-
  Tokens compared. By an AI agent.
-/
import Derived.Test.YthadjopkfglecaaLexRow
import Derived.WalkSpells
import Derived.Laws.StructEq
import Derived.IntWalk
import Derived.Deep.QuietTactic
import Derived.BigQuiet
namespace Go.Proofs.Ythadjopkfglecaa.Lex
open Go.RowKit

theorem fieldsTok : (Try.prog.fieldsOf 28).toList.map (fun f => (f.name, f.type, f.offset)) = [("Kind", 3, 0), ("Text", 9, 1), ("Num", 3, 2), ("At", 3, 3)] := by kernel_rfl
theorem structTok : Try.prog.underlying 28 = some (.struct (Try.prog.fieldsOf 28)) := by kernel_rfl
theorem stoodTok : Try.prog.stoodInHeld 28 = false := by kernel_rfl
theorem guardTok : Try.prog.eqGuardType Try.prog.depth 28 = false := by kernel_rfl
theorem part_one {P : Program} (w : World) (t : TypeId) (cs : Array Value) (o : Nat) (v : Value) (ht : (∃ k, P.underlying t = some (.int k)) ∨ P.underlying t = some .string) (hv : cs[o]? = some v) : (part t cs o).run P w = .ok v w := by
  rcases ht with ⟨k, ht⟩ | ht
  · simp [part, isAgg, run_underlying ht, hv]
  · simp [part, isAgg, run_underlying ht, hv]
theorem tk_equal (t1 t2 : Tk) (w : World) : (Op.equalIn 10000 28 (.agg #[.int .i64 (t1.kind : Int), .string (bytes t1.text), .int .i64 (t1.num : Int), .int .i64 (t1.pos : Int)]) (.agg #[.int .i64 (t2.kind : Int), .string (bytes t2.text), .int .i64 (t2.num : Int), .int .i64 (t2.pos : Int)])).run Try.prog w = .ok (decide (t1 = t2)) w := by
  rw [run_equalIn_struct w _ _ _ _ structTok stoodTok]
  generalize hfs : (Try.prog.fieldsOf 28).toList = fs
  have h := fieldsTok
  rw [hfs] at h
  match fs, h with
  | [f0, f1, f2, f3], h =>
    simp only [List.map_cons, List.map_nil, List.cons.injEq, Prod.mk.injEq, and_true] at h
    obtain ⟨⟨n0, t0, o0⟩, ⟨n1, t1', o1⟩, ⟨n2, t2', o2⟩, n3, t3, o3⟩ := h
    have q0 : ∀ (W : World) (a b c d : Value), (part 3 #[a, b, c, d] 0).run Try.prog W = .ok a W := fun W a b c d => part_one W _ _ 0 a (Or.inl ⟨_, Try.underlying3⟩) rfl
    have q1 : ∀ (W : World) (a b c d : Value), (part 9 #[a, b, c, d] 1).run Try.prog W = .ok b W := fun W a b c d => part_one W _ _ 1 b (Or.inr Try.underlying9) rfl
    have q2 : ∀ (W : World) (a b c d : Value), (part 3 #[a, b, c, d] 2).run Try.prog W = .ok c W := fun W a b c d => part_one W _ _ 2 c (Or.inl ⟨_, Try.underlying3⟩) rfl
    have q3 : ∀ (W : World) (a b c d : Value), (part 3 #[a, b, c, d] 3).run Try.prog W = .ok d W := fun W a b c d => part_one W _ _ 3 d (Or.inl ⟨_, Try.underlying3⟩) rfl
    have e0 : ∀ (W : World) (a b : Int), (Op.equalIn 9999 3 (.int .i64 a) (.int .i64 b)).run Try.prog W = .ok (a == b) W := fun W a b => run_equalIn_int W 9998 _ .i64 .i64 a b Try.underlying3
    have e1 : ∀ (W : World) (a b : ByteArray), (Op.equalIn 9999 9 (.string a) (.string b)).run Try.prog W = .ok (a.toList == b.toList) W := fun W a b => run_equalIn_string W 9998 _ a b Try.underlying9
    have ht : ((bytes t1.text).toList == (bytes t2.text).toList) = decide (t1.text = t2.text) := by
      simp only [bytes, ByteArray.toList_mk]
      by_cases h : t1.text = t2.text
      · simp [h]
      · simp [h]
    have hk : ∀ a b : Nat, ((a : Int) == (b : Int)) = decide (a = b) := fun a b => by
      by_cases h : a = b
      · simp [h]
      · simp [h]; omega
    have hfin : decide (t1 = t2) = (decide (t1.kind = t2.kind) && (decide (t1.text = t2.text) && (decide (t1.num = t2.num) && decide (t1.pos = t2.pos)))) := by
      cases t1; cases t2
      simp only [Tk.mk.injEq, Bool.decide_and]
    rw [hfin]
    simp only [Op.eqFields, n0, t0, o0, n1, t1', o1, n2, t2', o2, n3, t3, o3, q0, q1, q2, q3, e0, e1, ht, hk, Sem.run_bind, Result.andThen_ok, ne_eq, String.reduceEq, not_false_eq_true, if_true, Sem.run_ite, Sem.run_pure]
    generalize decide (t1.kind = t2.kind) = b0
    generalize decide (t1.text = t2.text) = b1
    generalize decide (t1.num = t2.num) = b2
    generalize decide (t1.pos = t2.pos) = b3
    cases b0 <;> cases b1 <;> cases b2 <;> cases b3 <;> rfl
theorem tk_neq (t1 t2 : Tk) (w : World) : (binOp .neq 28 (.agg #[.int .i64 (t1.kind : Int), .string (bytes t1.text), .int .i64 (t1.num : Int), .int .i64 (t1.pos : Int)]) (.agg #[.int .i64 (t2.kind : Int), .string (bytes t2.text), .int .i64 (t2.num : Int), .int .i64 (t2.pos : Int)])).run Try.prog w = .ok (.bool (!(decide (t1 = t2)))) w := by
  rw [run_neq_struct, tk_equal]
  rfl
theorem tk_eql (t1 t2 : Tk) (w : World) : (binOp .eql 28 (.agg #[.int .i64 (t1.kind : Int), .string (bytes t1.text), .int .i64 (t1.num : Int), .int .i64 (t1.pos : Int)]) (.agg #[.int .i64 (t2.kind : Int), .string (bytes t2.text), .int .i64 (t2.num : Int), .int .i64 (t2.pos : Int)])).run Try.prog w = .ok (.bool (decide (t1 = t2))) w := by
  rw [run_eql_struct, tk_equal]
  rfl
end Go.Proofs.Ythadjopkfglecaa.Lex
