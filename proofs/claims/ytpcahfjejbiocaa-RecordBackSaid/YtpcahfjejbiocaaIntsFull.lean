/-
  'append(x, ys...)' where x is full: a part of a slice with three indices. By an AI agent.
-/
import Derived.Test.YtpcahfjejbiocaaInts
import Derived.Lib.AppendZeros
import Derived.Deep.AppendSrc
namespace Go.Proofs.Ytpcahfjejbiocaa.Ints
open Go.RowKit

section
variable {P : Program} {w : World}
theorem rd_cat {k : IntKind} {w : World} {e : TypeId} {n m : Nat} {xs ys : List Int} (hx : xs.length = n) (hy : ys.length = m) (h1 : ∀ z ∈ xs, (Lit.int k z).wf = true) (h2 : ∀ z ∈ ys, (Lit.int k z).wf = true) (Z : Array Value) :
    Rd k (w.alloc (.cells ((xs.map (Value.int k)).toArray ++ (ys.map (Value.int k)).toArray ++ Z) e)) (some ⟨w.heap.size, 0, none⟩) (n + m) (xs ++ ys) := by
  subst hx; subst hy
  refine ⟨List.length_append, fun j hj => ?_, fun h0 => ⟨_, _, rfl, fun j hj => ?_⟩⟩
  · have hjl : j < (xs ++ ys).length := by rw [List.length_append]; exact hj
    rw [List.getElem?_eq_getElem hjl]
    rcases List.mem_append.1 (List.getElem_mem hjl) with h | h
    · exact h1 _ h
    · exact h2 _ h
  · have hjl : j < (xs ++ ys).length := by rw [List.length_append]; exact hj
    rw [Nat.zero_add, cell_of_row _ w.heap.size j _ e (0, 0) (heap_alloc_new w _)]
    have e1 : (xs.map (Value.int k)).toArray ++ (ys.map (Value.int k)).toArray = ((xs ++ ys).map (Value.int k)).toArray := by simp
    rw [e1, Array.getElem?_append_left (by simpa using hjl), List.getElem?_toArray, List.getElem?_map, List.getElem?_eq_getElem hjl]
    rfl
theorem run_append_full (k : IntKind) (t ty e : TypeId) (i : TypeInfo) (bytes : Nat) (ht : P.underlying t = some (.slice e)) (hi : P.info? e = some i) (hz : i.zero = some (.int k 0))
    (hsize : i.size = 1) (hby : i.bytes = bytes) (A : Option Addr) (n : Nat) (xs : List Int) (hn : 0 < n) (hx : Rd k w A n xs) (B : Option Addr) (m c : Nat) (ys : List Int) (hy : Rd k w B m ys)
    (h63 : n + m ≤ maxLen) (hbytes : (n + m) * bytes ≤ 140737488355328) :
    ∃ A' c' w', (Builtin.append_ #[t, t] ty #[.slice A n n, .slice B m c]).run P w = .ok (.slice A' (n + m) c') w' ∧ Rd k w' A' (n + m) (xs ++ ys) ∧ n + m ≤ c' ∧ c' ≤ maxLen ∧ (∃ a, A' = some a) ∧ Below w.heap.size w w' := by
  obtain ⟨b, off, rfl, hc⟩ := hx.cell hn
  have q63 : maxLen = 9223372036854775807 := rfl
  rcases Nat.eq_zero_or_pos m with h0 | h0
  · subst h0
    have hye : ys = [] := List.eq_nil_of_length_eq_zero hy.len
    subst hye
    refine ⟨some ⟨b, off, none⟩, n, w, ?_, by simpa using hx, by omega, by omega, ⟨_, rfl⟩, Below.refl _ _⟩
    cases B with
    | none => simp [Builtin.append_, run_underlying ht, sizeOf, typeInfo, hi, Builtin.lenOf, Builtin.firstCells, storeCells]
    | some a =>
      have hl := run_firstCells_some (P := P) w i.size 0 a 0 c [] (by simp) (fun j v hj => by simp at hj)
      simp [Builtin.append_, run_underlying ht, sizeOf, typeInfo, hi, Builtin.lenOf, hl, storeCells]
  · obtain ⟨b2, off2, rfl, hc2⟩ := hy.cell h0
    have addr : ∀ (b off j : Nat), (⟨b, off, none⟩ : Addr).add j = ⟨b, off + j, none⟩ := fun b off j => by unfold Addr.add; split <;> simp_all
    have ho : ∀ j v, (xs.map (Value.int k))[j]? = some v → w.cell? ((⟨b, off, none⟩ : Addr).add j) = some v := fun j v hv => by
      have hj : j < xs.length := by
        rcases Nat.lt_or_ge j xs.length with h | h
        · exact h
        · simp [List.getElem?_eq_none h] at hv
      rw [addr, hc j (by have := hx.len; omega)]
      simpa [List.getElem?_eq_getElem hj] using hv
    have hw : ∀ j v, (ys.map (Value.int k))[j]? = some v → w.cell? ((⟨b2, off2, none⟩ : Addr).add j) = some v := fun j v hv => by
      have hj : j < ys.length := by
        rcases Nat.lt_or_ge j ys.length with h | h
        · exact h
        · simp [List.getElem?_eq_none h] at hv
      rw [addr, hc2 j (by have := hy.len; omega)]
      simpa [List.getElem?_eq_getElem hj] using hv
    have hrun := run_append_grow (P := P) (w := w) t ty e i (.int k 0) ht hi hz ⟨b, off, none⟩ n n (xs.map (Value.int k)) (by simp [hx.len, hsize]) ho ⟨b2, off2, none⟩ m c (ys.map (Value.int k)) (by simp [hy.len, hsize]) hw (by omega) (by omega)
      (growslice_fits (by omega) (by rw [hby]; exact hbytes))
    refine ⟨_, _, _, hrun, ?_, grownCap_ge w _ _ _, grownCap_le_maxLen w _ _ _ h63, ⟨_, rfl⟩, ((Below.refl _ _).drew).alloc (Nat.le_refl _) _⟩
    exact rd_cat (w := w.drew) hx.len hy.len hx.all hy.all _
/-- 'append(v, xs...)' behind '&&': the operation is guarded, and wanted. -/
theorem wpList_append_if {ops : Array Oper} {rest : List Oper} {o : Oper} {a : Act} {Q : Exit → Act → World → Prop} (hw : Region.wanted o (yielded ops a.tmps) = true) (s x : Operand) (t : TypeId)
    (ho : o.op = .call { callee := .builtin .append, args := #[s, x], argTypes := #[t, t] }) (k : IntKind) (base : Nat) (e : TypeId) (i : TypeInfo) (bytes : Nat)
    (ht : P.underlying t = some (.slice e)) (hi : P.info? e = some i) (hz : i.zero = some (.int k 0)) (hsize : i.size = 1) (hby : i.bytes = bytes)
    (v : Value) (n : Nat) (zs : List Int) (hs : a.eval s = v) (hown : w.ownsRow base e 1 v n (zs.map (Value.int k)))
    (A : Option Addr) (m c : Nat) (ys : List Int) (hx : a.eval x = .slice A m c) (hr : Rd k w A m ys)
    (h63 : n + m ≤ maxLen) (hbytes : (n + m) * bytes ≤ 140737488355328) (hbase : base ≤ w.heap.size)
    (h : ∀ v' w', w'.ownsRow base e 1 v' (n + m) ((zs ++ ys).map (Value.int k)) → w.grownBy w' v.ownBlock → wpList P ops Q rest (a.put o.dst v') w') : wpList P ops Q (o :: rest) a w := by
  refine wpList_step fun K hK => ?_
  rw [if_pos hw]
  obtain ⟨v', w', hrun, h1, h2⟩ := run_append_ints (P := P) k base t o.type e i bytes ht hi hz hsize hby v n zs hown A m c ys hr h63 hbytes hbase
  unfold Oper.wp
  simp [execOp, ho, resolve, invoke, builtin, hs, hx, hrun, Result.andThen]
  exact hK _ _ (h v' w' h1 h2)
end
end Go.Proofs.Ytpcahfjejbiocaa.Ints
