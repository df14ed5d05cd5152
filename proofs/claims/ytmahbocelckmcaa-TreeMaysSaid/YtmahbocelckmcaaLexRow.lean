/-
  Rows of tokens in memory: append of one; what a walk reads. By an AI agent.
-/
import Derived.Test.YtmahbocelckmcaaChecked
import Derived.Test.YtmahbocelckmcaaLexMath
import Derived.WalkKit
import Derived.Below
import Derived.Laws.AppendOwn
import Derived.Lib.Hide
import Derived.Sort.OwnSorted
namespace Go.Proofs.Ytmahbocelckmcaa.Lex
open Go.RowKit

/-- The cells of a token. -/
def bytes (l : List UInt8) : ByteArray := ⟨l.toArray⟩
def cellsTk (t : Tk) : List Value := [.int .i64 (t.kind : Int), .string (bytes t.text), .int .i64 (t.num : Int), .int .i64 (t.pos : Int)]
def rowTk (l : List Tk) : List Value := l.flatMap cellsTk
theorem rowTk_len (l : List Tk) : (rowTk l).length = l.length * 4 := by
  induction l with
  | nil => rfl
  | cons t l ih =>
    simp only [rowTk, List.flatMap_cons, List.length_append, List.length_cons] at ih ⊢
    rw [ih]
    show 4 + l.length * 4 = (l.length + 1) * 4
    omega
theorem rowTk_snoc (l : List Tk) (t : Tk) : rowTk (l ++ [t]) = rowTk l ++ cellsTk t := by
  simp [rowTk]
theorem rowTk_at : ∀ (l : List Tk) (j : Nat) (t : Tk), l[j]? = some t → ∀ f, f < 4 → (rowTk l)[4 * j + f]? = (cellsTk t)[f]?
  | [], j, t, h, _, _ => by simp at h
  | x :: l, 0, t, h, f, hf => by
    simp only [List.getElem?_cons_zero, Option.some.injEq] at h
    subst h
    show (cellsTk x ++ rowTk l)[4 * 0 + f]? = _
    rw [Nat.mul_zero, Nat.zero_add, List.getElem?_append_left (by exact hf)]
  | x :: l, j + 1, t, h, f, hf => by
    have ih := rowTk_at l j t (by simpa using h) f hf
    show (cellsTk x ++ rowTk l)[4 * (j + 1) + f]? = _
    rw [List.getElem?_append_right (by show 4 ≤ _; omega), ← ih]
    congr 1
    show 4 * (j + 1) + f - 4 = _
    omega
theorem cellsTk_one (t : Tk) : ∀ u ∈ cellsTk t, u.oneCell' = true := by
  intro u hu
  simp only [cellsTk, List.mem_cons, List.not_mem_nil, or_false] at hu
  rcases hu with rfl | rfl | rfl | rfl <;> rfl

/-- The slice v reads as the tokens l. -/
def Toks (w : World) (v : Value) (l : List Tk) : Prop :=
  ∃ A c, v = .slice A l.length c ∧ (∀ a, A = some a → a.block < w.heap.size) ∧
    (0 < l.length → ∃ b, A = some ⟨b, 0, none⟩ ∧ ∀ (j : Nat) (t : Tk), l[j]? = some t →
      w.cell? ⟨b, 4 * j, none⟩ = some (.int .i64 (t.kind : Int)) ∧ w.cell? ⟨b, 4 * j + 1, none⟩ = some (.string (bytes t.text)) ∧ w.cell? ⟨b, 4 * j + 2, none⟩ = some (.int .i64 (t.num : Int)) ∧ w.cell? ⟨b, 4 * j + 3, none⟩ = some (.int .i64 (t.pos : Int)))
theorem keepc {w w' : World} {b o : Nat} {u : Value} (hb : Below w.heap.size w w') (hlt : b < w.heap.size) (h : w.cell? ⟨b, o, none⟩ = some u) : w'.cell? ⟨b, o, none⟩ = some u :=
  (hb.cell (show (⟨b, o, none⟩ : Addr).block < w.heap.size from hlt)).trans h
theorem Toks.keep {w w' : World} {v : Value} {l : List Tk} (h : Toks w v l) (hb : Below w.heap.size w w') : Toks w' v l := by
  obtain ⟨A, c, h1, h2, h3⟩ := h
  refine ⟨A, c, h1, fun a ha => Nat.lt_of_lt_of_le (h2 a ha) hb.size, fun h0 => ?_⟩
  obtain ⟨b, h4, h5⟩ := h3 h0
  have hlt : b < w.heap.size := h2 _ h4
  refine ⟨b, h4, fun j t ht => ?_⟩
  obtain ⟨c1, c2, c3, c4⟩ := h5 j t ht
  exact ⟨keepc hb hlt c1, keepc hb hlt c2, keepc hb hlt c3, keepc hb hlt c4⟩
theorem Toks.own {w : World} {base : Nat} {e : TypeId} {v : Value} {l : List Tk} (h : w.ownsRow base e 4 v l.length (rowTk l)) : Toks w v l := by
  have hlt := h.lt
  have h' := h
  rcases h.2 with ⟨rfl, h0⟩ | ⟨g, cap, cur, rfl, _, _, h3, h4, _⟩
  · exact ⟨none, 0, by rw [h0], fun a ha => by (cases ha), fun hp => by omega⟩
  · refine ⟨_, cap, rfl, fun a ha => by injection ha with ha; subst ha; exact (hlt g rfl).2, fun _ => ⟨g, rfl, fun j t ht => ?_⟩⟩
    have hj : j < l.length := (List.getElem?_eq_some_iff.1 ht).1
    have key : ∀ f, f < 4 → w.cell? ⟨g, 4 * j + f, none⟩ = (cellsTk t)[f]? := fun f hf => by
      rw [h'.cellAt (4 * j + f) (by omega)]
      exact rowTk_at l j t ht f hf
    exact ⟨key 0 (by omega), key 1 (by omega), key 2 (by omega), key 3 (by omega)⟩

section
variable {P : Program} {w : World}
/-- 'append(v, t)' : v is the call's own row of tokens; t lies in a new block of four cells. -/
theorem wpList_append_tok {ops : Array Oper} {rest : List Oper} {o : Oper} {a : Act} {Q : Exit → Act → World → Prop} (hgd : o.guard = none) (s x : Operand) (t : TypeId)
    (ho : o.op = .call { callee := .builtin .append, args := #[s, x], argTypes := #[t, t] }) (base : Nat) (e : TypeId) (i : TypeInfo) (z : Value) (nb : Nat)
    (ht : P.underlying t = some (.slice e)) (hi : P.info? e = some i) (hz : i.zero = some z) (hsize : i.size = 4) (hby : i.bytes = nb) (hzs : z.cells.size = 4)
    (v : Value) (l : List Tk) (hs : a.eval s = v) (hown : w.ownsRow base e 4 v l.length (rowTk l))
    (tk : Tk) (T : TypeId) (cs : Array Value) (hcs : cs = (cellsTk tk).toArray) (hx : a.eval x = .slice (some ⟨w.heap.size, 0, none⟩) 1 1)
    (hl : l.length ≤ 2000) (hb : nb ≤ 1000) (hbase : base ≤ w.heap.size)
    (h : ∀ v' w', w'.ownsRow base e 4 v' (l ++ [tk]).length (rowTk (l ++ [tk])) → (w.alloc (.cells cs T)).grownBy w' v.ownBlock → wpList P ops Q rest (a.put o.dst v') w') : wpList P ops Q (o :: rest) a (w.alloc (.cells cs T)) := by
  subst hcs
  refine wpList_append_own _ hgd s x t ho base e i z 4 nb ht hi hz hsize hby hzs (by decide) v l.length (rowTk l) hs (hown.alloc _) ⟨w.heap.size, 0, none⟩ 1 1 (cellsTk tk) hx rfl (fun j u hu => ?_) (cellsTk_one tk)
    (by have : maxLen = 9223372036854775807 := rfl; omega) (by have : (l.length + 1) * nb ≤ 2001 * 1000 := Nat.mul_le_mul (by omega) hb; omega) (by simp; omega) (fun v' w' h1 h2 _ => h v' w' ?_ h2)
  · rw [show (⟨w.heap.size, 0, none⟩ : Addr).add j = ⟨w.heap.size, j, none⟩ by unfold Addr.add; split <;> simp_all]
    rw [cell_of_row _ w.heap.size j _ T (0, 0) (heap_alloc_new w _)]
    simpa using hu
  · rw [rowTk_snoc, List.length_append]
    exact h1
end
end Go.Proofs.Ytmahbocelckmcaa.Lex
