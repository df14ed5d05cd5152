/-
  Slices of integers, as a walk needs them: a slice that reads as a list of numbers, whatever its address where it is empty; what is appended to a row of the call's own. By an AI agent.
  Chains of a relation on the points below n; tables of it by squaring (stage 14). By an AI agent.
  Ways of a regular expression, told by the kinds and kids of its nodes (stage 14). By an AI agent.
-/
import Derived.Below
import Derived.Laws.OwnMore
import Derived.Laws.MakeOwn
import Derived.Deep.Draws
import Derived.Lib.SlBytesConst
import Derived.Laws.BytesArg
import Derived.Laws.Strings
import Derived.OwnWalk
import Derived.WalkKit
namespace Go.Proofs.Ytcpmcgbjmncalaa.Ints
open Go.RowKit

/-- The slice of address A and length n reads as the numbers zs of kind k. -/
def Rd (k : IntKind) (w : World) (A : Option Addr) (n : Nat) (zs : List Int) : Prop :=
  zs.length = n ∧ (∀ j, j < n → (Lit.int k (zs[j]?.getD 0)).wf = true) ∧
    (0 < n → ∃ b off, A = some ⟨b, off, none⟩ ∧ ∀ j, j < n → w.cell? ⟨b, off + j, none⟩ = some (.int k (zs[j]?.getD 0)))

theorem wf_u8 {x : Int} (h : (Lit.int .u8 x).wf = true) : 0 ≤ x ∧ x ≤ 255 := by
  simp [Lit.wf, IntKind.min, IntKind.max, IntKind.signed, IntKind.bits] at h
  omega
theorem wf_u16 {x : Int} (h : (Lit.int .u16 x).wf = true) : 0 ≤ x ∧ x ≤ 65535 := by
  simp [Lit.wf, IntKind.min, IntKind.max, IntKind.signed, IntKind.bits] at h
  omega
theorem wf_u64 {x : Int} (h : (Lit.int .u64 x).wf = true) : 0 ≤ x ∧ x ≤ 18446744073709551615 := by
  simp [Lit.wf, IntKind.min, IntKind.max, IntKind.signed, IntKind.bits] at h
  omega
theorem wf_i64 {x : Int} (h : (Lit.int .i64 x).wf = true) : -9223372036854775808 ≤ x ∧ x ≤ 9223372036854775807 := by
  simp [Lit.wf, IntKind.min, IntKind.max, IntKind.signed, IntKind.bits] at h
  omega
theorem take_snoc (l : List Int) (k : Nat) (h : k < l.length) : l.take (k + 1) = l.take k ++ [l[k]?.getD 0] := by
  rw [List.take_succ_eq_append_getElem h]; simp [List.getElem?_eq_getElem h]

section
variable {k : IntKind} {w w' : World} {A : Option Addr} {n : Nat} {zs : List Int}
theorem Rd.len (h : Rd k w A n zs) : zs.length = n := h.1
theorem Rd.wf (h : Rd k w A n zs) : ∀ j, j < n → (Lit.int k (zs[j]?.getD 0)).wf = true := h.2.1
theorem Rd.cell (h : Rd k w A n zs) : 0 < n → ∃ b off, A = some ⟨b, off, none⟩ ∧ ∀ j, j < n → w.cell? ⟨b, off + j, none⟩ = some (.int k (zs[j]?.getD 0)) := h.2.2
theorem Rd.u8 (h : Rd .u8 w A n zs) : ∀ j, j < n → 0 ≤ zs[j]?.getD 0 ∧ zs[j]?.getD 0 ≤ 255 := fun j hj => wf_u8 (h.wf j hj)
theorem Rd.u64 (h : Rd .u64 w A n zs) : ∀ j, j < n → 0 ≤ zs[j]?.getD 0 ∧ zs[j]?.getD 0 ≤ 18446744073709551615 := fun j hj => wf_u64 (h.wf j hj)
theorem Rd.nil (k : IntKind) (w : World) (A : Option Addr) : Rd k w A 0 [] := ⟨rfl, fun j h => by omega, fun h => by omega⟩
theorem Rd.keep (h : Rd k w A n zs) (hk : ∀ p u, A.map (·.block) = some p.block → w.cell? p = some u → w'.cell? p = some u) : Rd k w' A n zs :=
  ⟨h.1, h.2.1, fun h0 => by
    obtain ⟨b, off, rfl, hc⟩ := h.2.2 h0
    exact ⟨b, off, rfl, fun j hj => hk _ _ rfl (hc j hj)⟩⟩
theorem Rd.below (h : Rd k w A n zs) (hb : Below w.heap.size w w') : Rd k w' A n zs :=
  h.keep fun p _ _ hu => (hb.cell (World.block_lt_of_cell? w p hu)).trans hu
theorem Rd.grown {row : Option Nat} (h : Rd k w A n zs) (hg : w.grownBy w' row) (hne : ∀ a, A = some a → some a.block ≠ row) : Rd k w' A n zs :=
  h.keep fun p u hp hu => hg.cell hu (by
    cases A with
    | none => simp at hp
    | some a => have := hne a rfl; simp at hp; rw [← hp]; exact this)
theorem Rd.alloc (h : Rd k w A n zs) (o : Obj) : Rd k (w.alloc o) A n zs := h.keep fun _ _ _ hu => Lib.cell?_alloc_marked o hu
theorem Rd.drew (h : Rd k w A n zs) : Rd k w.drew A n zs := h
theorem Rd.drewN (h : Rd k w A n zs) (q : Nat) : Rd k (w.drewN q) A n zs := h.keep fun _ _ _ hu => by simpa using hu
theorem Rd.take (h : Rd k w A n zs) {m : Nat} (hm : m ≤ n) : Rd k w A m (zs.take m) :=
  ⟨by rw [List.length_take, h.1]; omega, fun j hj => by rw [List.getElem?_take_of_lt hj]; exact h.2.1 j (by omega), fun h0 => by
    obtain ⟨b, off, rfl, hc⟩ := h.2.2 (by omega)
    exact ⟨b, off, rfl, fun j hj => by rw [List.getElem?_take_of_lt hj]; exact hc j (by omega)⟩⟩
theorem Rd.drop {b off : Nat} (h : Rd k w (some ⟨b, off, none⟩) n zs) {m : Nat} (hm : m ≤ n) : Rd k w (some ⟨b, off + m, none⟩) (n - m) (zs.drop m) :=
  ⟨by rw [List.length_drop, h.1], fun j hj => by rw [List.getElem?_drop]; exact h.2.1 _ (by omega), fun h0 => by
    obtain ⟨b', off', e, hc⟩ := h.2.2 (by omega)
    simp only [Option.some.injEq, Addr.mk.injEq, and_true] at e
    obtain ⟨rfl, rfl⟩ := e
    exact ⟨_, _, rfl, fun j hj => by rw [List.getElem?_drop, Nat.add_assoc]; exact hc _ (by omega)⟩⟩
/-- What the shell tells of a slice of integers that came in. -/
theorem rd_of {len cap : Nat} (h : (A = none ∧ len = 0 ∧ cap = 0 ∧ zs = []) ∨
      ∃ x, A = some x ∧ len ≤ cap ∧ cap ≤ maxLen ∧ zs.length = cap ∧ (∀ i, i < zs.length → w.cell? (x.add i) = some (.int k (zs.getD i 0))) ∧ ∀ n ∈ zs, (Lit.int k n).wf = true) :
    Rd k w A len (zs.take len) ∧ len ≤ cap ∧ cap ≤ maxLen := by
  rcases h with ⟨rfl, rfl, rfl, rfl⟩ | ⟨x, rfl, hl, hm, hz, hcell, hwf⟩
  · exact ⟨Rd.nil _ _ _, Nat.le_refl _, by decide⟩
  · have e : ∀ j, j < len → (zs.take len)[j]?.getD 0 = zs.getD j 0 := fun j hj => by
      rw [List.getElem?_take_of_lt hj]; simp [List.getD]
    refine ⟨⟨by rw [List.length_take]; omega, fun j hj => ?_, fun h0 => ?_⟩, hl, hm⟩
    · rw [e j hj]
      have hj' : j < zs.length := by omega
      have := hwf zs[j] (List.getElem_mem hj')
      simpa only [List.getD, List.getElem?_eq_getElem hj', Option.getD_some] using this
    · obtain ⟨b, off, spot⟩ := x
      have hc := hcell 0 (by omega)
      have hspot : spot = none := by simpa [Addr.add] using World.cell?_spot hc
      subst hspot
      refine ⟨b, off, rfl, fun j hj => ?_⟩
      rw [e j hj, ← hcell j (by omega)]
      congr 1
      unfold Addr.add
      split <;> simp_all
/-- A row that was laid just now. -/
theorem Rd.lit (w : World) (T : TypeId) (fr : Nat × Nat) (zs : List Int) (hz : ∀ z ∈ zs, (Lit.int k z).wf = true) :
    Rd k (w.alloc (.cells (zs.map (Value.int k)).toArray T fr)) (some ⟨w.heap.size, 0, none⟩) zs.length zs :=
  ⟨rfl, fun j hj => by rw [List.getElem?_eq_getElem hj]; exact hz _ (List.getElem_mem hj), fun _ => ⟨_, _, rfl, fun j hj => by
    rw [Nat.zero_add, cell_of_row _ w.heap.size j _ T fr (heap_alloc_new w _)]
    simp [List.getElem?_eq_getElem hj]⟩⟩
/-- A row of the call's own. -/
theorem Rd.own {base c : Nat} {e : TypeId} (h : w.ownsRow base e 1 (.slice A n c) n (zs.map (Value.int k))) (hz : ∀ z ∈ zs, (Lit.int k z).wf = true) : Rd k w A n zs := by
  have hl : zs.length = n := by simpa using h.1
  refine ⟨hl, fun j hj => ?_, fun h0 => ?_⟩
  · rw [List.getElem?_eq_getElem (by omega)]; exact hz _ (List.getElem_mem _)
  · have h' := h
    rcases h.2 with ⟨_, h2⟩ | ⟨g, cap, cur, h2, _⟩
    · omega
    · injection h2 with h3 _ h4
      subst h3; subst h4
      refine ⟨_, _, rfl, fun j hj => ?_⟩
      rw [Nat.zero_add, h'.cellAt j (by omega)]
      have hj' : j < zs.length := by omega
      simp [List.getElem?_eq_getElem hj']
end

section
variable {w : World} {base : Nat} {e : TypeId} {v : Value} {n : Nat} {xs : List Value} {k : IntKind} {zs : List Int}
theorem own_form (h : w.ownsRow base e 1 v n xs) (hn : 0 < n) : ∃ g cap, v = .slice (some ⟨g, 0, none⟩) n cap ∧ base ≤ g ∧ g < w.heap.size ∧ n ≤ cap ∧ cap ≤ maxLen := by
  have hlt := h.lt
  rcases h.2 with ⟨_, h2⟩ | ⟨g, cap, cur, rfl, _, _, h3, h4, _⟩
  · omega
  · exact ⟨g, cap, rfl, (hlt g rfl).1, (hlt g rfl).2, h3, h4⟩
theorem own_slice (h : w.ownsRow base e 1 v n xs) : ∃ A c, v = .slice A n c ∧ n ≤ c ∧ c ≤ maxLen ∧ (A = none → c = 0) ∧ (∀ a, A = some a → base ≤ a.block ∧ a.block < w.heap.size) := by
  have hlt := h.lt
  rcases h.2 with ⟨rfl, rfl⟩ | ⟨g, cap, cur, rfl, _, _, h3, h4, _⟩
  · exact ⟨none, 0, rfl, Nat.le_refl _, (by decide), (fun _ => rfl), (fun a h => by cases h)⟩
  · exact ⟨_, cap, rfl, h3, h4, (fun h => by cases h), (fun a h => by injection h with h; subst h; exact hlt g rfl)⟩
theorem own_cell {g cap : Nat} (h : w.ownsRow base e 1 (.slice (some ⟨g, 0, none⟩) n cap) n (zs.map (Value.int k))) {j : Nat} (hj : j < n) : w.cell? ⟨g, j, none⟩ = some (.int k (zs[j]?.getD 0)) := by
  have hl : zs.length = n := by simpa using h.1
  rw [h.cellAt j (by omega)]
  have hj' : j < zs.length := by omega
  simp [List.getElem?_eq_getElem hj']
theorem own_set {g cap : Nat} (h : w.ownsRow base e 1 (.slice (some ⟨g, 0, none⟩) n cap) n (zs.map (Value.int k))) (j : Nat) (y : Int) :
    (w.setCell ⟨g, j, none⟩ (.int k y)).ownsRow base e 1 (.slice (some ⟨g, 0, none⟩) n cap) n ((zs.set j y).map (Value.int k)) := by
  rw [List.map_set]; exact (h.stored j _).1
theorem Rd.all {A : Option Addr} (h : Rd k w A n zs) : ∀ z ∈ zs, (Lit.int k z).wf = true := by
  intro z hz
  obtain ⟨j, hj, rfl⟩ := List.getElem_of_mem hz
  have := h.wf j (by have := h.len; omega)
  rwa [List.getElem?_eq_getElem hj] at this
end

section
variable {P : Program} {w : World}
theorem one_cell (k : IntKind) (zs : List Int) : ∀ u ∈ zs.map (Value.int k), u.oneCell' = true := by
  intro u hu
  obtain ⟨z, _, rfl⟩ := List.mem_map.1 hu
  rfl
/-- 'append(v, xs...)': v is the call's own, xs reads as numbers, whatever its address where it is empty. -/
theorem run_append_ints (k : IntKind) (base : Nat) (t ty e : TypeId) (i : TypeInfo) (bytes : Nat) (ht : P.underlying t = some (.slice e)) (hi : P.info? e = some i) (hz : i.zero = some (.int k 0))
    (hsize : i.size = 1) (hby : i.bytes = bytes) (v : Value) (n : Nat) (zs : List Int) (hown : w.ownsRow base e 1 v n (zs.map (Value.int k)))
    (A : Option Addr) (m c : Nat) (ys : List Int) (hr : Rd k w A m ys) (h63 : n + m ≤ maxLen) (hbytes : (n + m) * bytes ≤ 140737488355328) (hbase : base ≤ w.heap.size) :
    ∃ v' w', (Builtin.append_ #[t, t] ty #[v, .slice A m c]).run P w = .ok v' w' ∧ w'.ownsRow base e 1 v' (n + m) ((zs ++ ys).map (Value.int k)) ∧ w.grownBy w' v.ownBlock := by
  have hone := one_cell k ys
  cases A with
  | some ad =>
    have hnews : ∀ j u, (ys.map (Value.int k))[j]? = some u → w.cell? (ad.add j) = some u := fun j u hu => by
      have hj : j < ys.length := by
        rcases Nat.lt_or_ge j ys.length with h | h
        · exact h
        · simp [List.getElem?_eq_none h] at hu
      obtain ⟨b, off, e, hc⟩ := hr.cell (by have := hr.len; omega)
      injection e with e
      subst e
      have h1 := hc j (by have := hr.len; omega)
      have h2 : (⟨b, off, none⟩ : Addr).add j = ⟨b, off + j, none⟩ := by unfold Addr.add; split <;> simp_all
      rw [h2, h1]
      simpa [List.getElem?_eq_getElem hj] using hu
    obtain ⟨v', w', hrun, ho, hg, _⟩ := run_append_own (P := P) w base t ty e i (.int k 0) 1 bytes ht hi hz hsize hby rfl (by decide) v n _ hown ad m c (ys.map (Value.int k)) (by simp [hr.len]) hnews hone h63 hbytes hbase
    exact ⟨v', w', hrun, by rw [List.map_append]; exact ho, hg⟩
  | none =>
    have hm : m = 0 := by
      rcases Nat.eq_zero_or_pos m with h | h
      · exact h
      · obtain ⟨_, _, h', _⟩ := hr.cell h
        cases h'
    subst hm
    have hy : ys = [] := List.eq_nil_of_length_eq_zero hr.len
    subst hy
    refine ⟨v, w, ?_, by simpa using hown, World.grownBy.refl w _⟩
    rcases hown.2 with ⟨rfl, rfl⟩ | ⟨g, cap, cur, rfl, _, _, hnc, _⟩
    · simp [Builtin.append_, run_underlying ht, sizeOf, typeInfo, hi, Builtin.lenOf, Builtin.firstCells]
    · simp [Builtin.append_, run_underlying ht, sizeOf, typeInfo, hi, Builtin.lenOf, Builtin.firstCells, hnc, storeCells]

theorem wpList_append_ints {ops : Array Oper} {rest : List Oper} {o : Oper} {a : Act} {Q : Exit → Act → World → Prop} (hgd : o.guard = none) (s x : Operand) (t : TypeId)
    (ho : o.op = .call { callee := .builtin .append, args := #[s, x], argTypes := #[t, t] }) (k : IntKind) (base : Nat) (e : TypeId) (i : TypeInfo) (bytes : Nat)
    (ht : P.underlying t = some (.slice e)) (hi : P.info? e = some i) (hz : i.zero = some (.int k 0)) (hsize : i.size = 1) (hby : i.bytes = bytes)
    (v : Value) (n : Nat) (zs : List Int) (hs : a.eval s = v) (hown : w.ownsRow base e 1 v n (zs.map (Value.int k)))
    (A : Option Addr) (m c : Nat) (ys : List Int) (hx : a.eval x = .slice A m c) (hr : Rd k w A m ys)
    (h63 : n + m ≤ maxLen) (hbytes : (n + m) * bytes ≤ 140737488355328) (hbase : base ≤ w.heap.size)
    (h : ∀ v' w', w'.ownsRow base e 1 v' (n + m) ((zs ++ ys).map (Value.int k)) → w.grownBy w' v.ownBlock → wpList P ops Q rest (a.put o.dst v') w') : wpList P ops Q (o :: rest) a w := by
  refine wpList_plain hgd fun K hK => ?_
  obtain ⟨v', w', hrun, h1, h2⟩ := run_append_ints (P := P) k base t o.type e i bytes ht hi hz hsize hby v n zs hown A m c ys hr h63 hbytes hbase
  unfold Oper.wp
  simp [execOp, ho, resolve, invoke, builtin, hs, hx, hrun, Result.andThen]
  exact hK _ _ (h v' w' h1 h2)
end

/-! ### bytes as strings -/
/-! ### quiet calls within a region that draws -/
theorem quiet_more {P : Program} {f : FuncId} {args : Array Value} {w W : World} {v : Value} (hW : ∃ k, W = w.drewN k)
    (h : Calls P f args W fun e w' => e = .returned v ∧ ∃ q, w' = W.drewN q) : Calls P f args W fun e w'' => e = .returned v ∧ ∃ m, w'' = w.drewN m :=
  h.mono fun _ _ ⟨he, q, hm⟩ => ⟨he, by obtain ⟨k, hk⟩ := hW; exact ⟨k + q, by rw [hm, hk, World.drewN_drewN]⟩⟩

/-! ### bits of bytes -/
end Go.Proofs.Ytcpmcgbjmncalaa.Ints

namespace Go.Proofs.Ytcpmcgbjmncalaa.Paths

/-- At most so many steps of R, one behind the other. -/
def ChainN (R : Nat → Nat → Prop) : Nat → Nat → Nat → Prop
  | 0, i, j => i = j
  | m + 1, i, j => i = j ∨ ∃ k, R i k ∧ ChainN R m k j
def Chain (R : Nat → Nat → Prop) (i j : Nat) : Prop := ∃ m, ChainN R m i j
theorem ChainN.refl (R : Nat → Nat → Prop) (m i : Nat) : ChainN R m i i := by cases m with
  | zero => rfl
  | succ m => exact .inl rfl
theorem ChainN.more {R : Nat → Nat → Prop} {m i j : Nat} (h : ChainN R m i j) : ChainN R (m + 1) i j := by
  induction m generalizing i with
  | zero => exact .inl h
  | succ m ih =>
    rcases h with h | ⟨k, h1, h2⟩
    · exact .inl h
    · exact .inr ⟨k, h1, ih h2⟩
theorem ChainN.mono {R : Nat → Nat → Prop} {m m' i j : Nat} (h : ChainN R m i j) (hm : m ≤ m') : ChainN R m' i j := by
  induction m' with
  | zero => obtain rfl : m = 0 := by omega
            exact h
  | succ q ih =>
    rcases Nat.lt_or_ge q m with h1 | h1
    · obtain rfl : m = q + 1 := by omega
      exact h
    · exact (ih h1).more
theorem ChainN.add {R : Nat → Nat → Prop} {m q i k j : Nat} (h : ChainN R m i k) (h2 : ChainN R q k j) : ChainN R (m + q) i j := by
  induction m generalizing i with
  | zero =>
    have h : i = k := h
    subst h
    rw [Nat.zero_add]
    exact h2
  | succ m ih =>
    rcases h with h | ⟨p, h1, h3⟩
    · subst h
      exact h2.mono (by omega)
    · rw [show m + 1 + q = (m + q) + 1 by omega]
      exact .inr ⟨p, h1, ih h3⟩
theorem ChainN.split {R : Nat → Nat → Prop} {m q i j : Nat} (h : ChainN R (m + q) i j) : ∃ k, ChainN R m i k ∧ ChainN R q k j := by
  induction m generalizing i with
  | zero => exact ⟨i, rfl, by rwa [Nat.zero_add] at h⟩
  | succ m ih =>
    rw [show m + 1 + q = (m + q) + 1 by omega] at h
    rcases h with h | ⟨p, h1, h2⟩
    · subst h
      exact ⟨i, ChainN.refl R _ i, ChainN.refl R _ i⟩
    · obtain ⟨k, h3, h4⟩ := ih h2
      exact ⟨k, .inr ⟨p, h1, h3⟩, h4⟩
theorem ChainN.le {R : Nat → Nat → Prop} (hR : ∀ i j, R i j → i ≤ j) {m i j : Nat} (h : ChainN R m i j) : i ≤ j := by
  induction m generalizing i with
  | zero => exact Nat.le_of_eq h
  | succ m ih =>
    rcases h with h | ⟨k, h1, h2⟩
    · exact Nat.le_of_eq h
    · exact Nat.le_trans (hR i k h1) (ih h2)
/-- Steps that lead nowhere are left out. -/
theorem ChainN.short {R : Nat → Nat → Prop} (hR : ∀ i j, R i j → i ≤ j) {m i j : Nat} (h : ChainN R m i j) : ChainN R (j - i) i j := by
  induction m generalizing i with
  | zero =>
    have h : i = j := h
    subst h
    exact ChainN.refl R _ _
  | succ m ih =>
    rcases h with h | ⟨k, h1, h2⟩
    · subst h
      exact ChainN.refl R _ _
    · have hk := hR i k h1
      have hj := h2.le hR
      have h3 := ih h2
      rcases Nat.lt_or_ge i k with h4 | h4
      · have h5 : ChainN R ((j - k) + 1) i j := .inr ⟨k, h1, h3⟩
        exact h5.mono (by omega)
      · obtain rfl : i = k := by omega
        exact h3
theorem chain_refl (R : Nat → Nat → Prop) (i : Nat) : Chain R i i := ⟨0, rfl⟩
theorem chain_one {R : Nat → Nat → Prop} {i j : Nat} (h : R i j) : Chain R i j := ⟨1, .inr ⟨j, h, rfl⟩⟩
theorem chain_trans {R : Nat → Nat → Prop} {i k j : Nat} (h : Chain R i k) (h2 : Chain R k j) : Chain R i j := by
  obtain ⟨m, h⟩ := h
  obtain ⟨q, h2⟩ := h2
  exact ⟨m + q, h.add h2⟩
theorem chain_le {R : Nat → Nat → Prop} (hR : ∀ i j, R i j → i ≤ j) {i j : Nat} (h : Chain R i j) : i ≤ j := h.elim fun _ h => h.le hR
/-- A chain is none, or a step and a chain. -/
theorem chain_iff {R : Nat → Nat → Prop} {i j : Nat} : Chain R i j ↔ i = j ∨ ∃ k, R i k ∧ Chain R k j := by
  constructor
  · rintro ⟨m, h⟩
    cases m with
    | zero => exact .inl h
    | succ m =>
      rcases h with h | ⟨k, h1, h2⟩
      · exact .inl h
      · exact .inr ⟨k, h1, m, h2⟩
  · rintro (h | ⟨k, h1, m, h2⟩)
    · subst h
      exact chain_refl R i
    · exact ⟨m + 1, .inr ⟨k, h1, h2⟩⟩
theorem chain_mono {R R' : Nat → Nat → Prop} (h : ∀ i j, R i j → R' i j) {i j : Nat} (hc : Chain R i j) : Chain R' i j := by
  obtain ⟨m, hc⟩ := hc
  refine ⟨m, ?_⟩
  induction m generalizing i with
  | zero => exact hc
  | succ m ih =>
    rcases hc with e | ⟨k, h1, h2⟩
    · exact .inl e
    · exact .inr ⟨k, h i k h1, ih h2⟩

/-! ### tables -/
/-- A table over the points below n. -/
abbrev Tb := Nat → Nat → Bool
/-- The table tells the relation, at the points below n. -/
def Tells (n : Nat) (m : Tb) (R : Nat → Nat → Prop) : Prop := ∀ i j, i < n → j < n → (m i j = true ↔ R i j)
/-- A relation on the points below n alone. -/
def On (n : Nat) (R : Nat → Nat → Prop) : Prop := ∀ i j, R i j → i < n ∧ j < n
def prodT (n : Nat) (a b : Tb) : Tb := fun i j => (List.range n).any fun k => a i k && b k j
def altT (a b : Tb) : Tb := fun i j => a i j || b i j
def idT (a : Tb) : Tb := fun i j => a i j || decide (i = j)
def sqT (n : Nat) : Nat → Nat → Tb → Tb
  | 0, _, m => m
  | f + 1, k, m => if k < n then sqT n f (k * 2) (prodT n m m) else m
theorem prod_tells {n : Nat} {a b : Tb} {A B : Nat → Nat → Prop} (ha : Tells n a A) (hb : Tells n b B) (hA : On n A) : Tells n (prodT n a b) (fun i j => ∃ k, A i k ∧ B k j) := by
  intro i j hi hj
  unfold prodT
  rw [List.any_eq_true]
  constructor
  · rintro ⟨k, hk, h⟩
    rw [List.mem_range] at hk
    rw [Bool.and_eq_true] at h
    exact ⟨k, (ha i k hi hk).1 h.1, (hb k j hk hj).1 h.2⟩
  · rintro ⟨k, h1, h2⟩
    have hk := (hA i k h1).2
    exact ⟨k, List.mem_range.2 hk, by rw [Bool.and_eq_true]; exact ⟨(ha i k hi hk).2 h1, (hb k j hk hj).2 h2⟩⟩
/-- Chains that stay below n. -/
theorem chainN_on {n : Nat} {R : Nat → Nat → Prop} (hR : On n R) {m i j : Nat} (h : ChainN R m i j) (hi : i < n) : j < n := by
  induction m generalizing i with
  | zero => have h : i = j := h
            omega
  | succ m ih =>
    rcases h with h | ⟨k, h1, h2⟩
    · omega
    · exact ih h2 (hR i k h1).2
theorem sq_tells {n : Nat} {R : Nat → Nat → Prop} (hR : On n R) (hF : ∀ i j, R i j → i ≤ j) : ∀ (f k : Nat) (m : Tb), 0 < k → Tells n m (ChainN R k) → n < k * 2 ^ f + 1 → Tells n (sqT n f k m) (Chain R) := by
  intro f
  induction f with
  | zero =>
    intro k m hk hm hn i j hi hj
    rw [sqT, hm i j hi hj]
    exact ⟨fun h => ⟨k, h⟩, fun ⟨q, h⟩ => (h.short hF).mono (by rw [Nat.pow_zero, Nat.mul_one] at hn; omega)⟩
  | succ f ih =>
    intro k m hk hm hn
    rw [sqT]
    split
    · rename_i hlt
      refine ih (k * 2) (prodT n m m) (by omega) ?_ (by rw [Nat.pow_succ, Nat.mul_comm (2 ^ f) 2, ← Nat.mul_assoc] at hn; exact hn)
      intro i j hi hj
      unfold prodT
      rw [List.any_eq_true]
      constructor
      · rintro ⟨q, hq, h⟩
        rw [List.mem_range] at hq
        rw [Bool.and_eq_true] at h
        rw [Nat.mul_two]
        exact ((hm i q hi hq).1 h.1).add ((hm q j hq hj).1 h.2)
      · intro h
        rw [Nat.mul_two] at h
        obtain ⟨q, h1, h2⟩ := h.split
        have hq := chainN_on hR h1 hi
        exact ⟨q, List.mem_range.2 hq, by rw [Bool.and_eq_true]; exact ⟨(hm i q hi hq).2 h1, (hm q j hq hj).2 h2⟩⟩
    · rename_i hge
      intro i j hi hj
      rw [hm i j hi hj]
      exact ⟨fun h => ⟨k, h⟩, fun ⟨q, h⟩ => (h.short hF).mono (by omega)⟩
theorem id_tells {n : Nat} {m : Tb} {R : Nat → Nat → Prop} (h : Tells n m R) : Tells n (idT m) (ChainN R 1) := by
  intro i j hi hj
  unfold idT
  rw [Bool.or_eq_true, decide_eq_true_eq, h i j hi hj]
  constructor
  · rintro (h | h)
    · exact .inr ⟨j, h, rfl⟩
    · exact .inl h
  · rintro (h | ⟨k, h1, h2⟩)
    · exact .inr h
    · have h2 : k = j := h2
      subst h2
      exact .inl h1
end Go.Proofs.Ytcpmcgbjmncalaa.Paths

namespace Go.Proofs.Ytcpmcgbjmncalaa.Paths

/-- A regular expression's nodes: their kinds, their kids, which tests hold at which points (by a test's node). -/
structure Rx where
  kd : Nat → Int
  k0 : Nat → Nat
  k1 : Nat → Nat
  h : Nat → Nat → Bool
/-- There is a way of the node `at_` from i to j, of n points. -/
def wayP (r : Rx) (n : Nat) : Nat → Nat → Nat → Nat → Prop
  | 0, _, _, _ => False
  | f + 1, at_, i, j => i < n ∧ j < n ∧
    if r.kd at_ = 18 then j = i + 1 else if r.kd at_ = 19 then j = i ∧ r.h at_ i = true
    else if r.kd at_ = 20 then wayP r n f (r.k0 at_) i j ∨ wayP r n f (r.k1 at_) i j
    else if r.kd at_ = 21 then ∃ k, wayP r n f (r.k0 at_) i k ∧ wayP r n f (r.k1 at_) k j
    else if r.kd at_ = 22 then Chain (wayP r n f (r.k0 at_)) i j else False
/-- The same as a table, reckoned as the document's words go. -/
def reachT (r : Rx) (n : Nat) : Nat → Nat → Tb
  | 0, _ => fun _ _ => false
  | f + 1, at_ =>
    if r.kd at_ = 18 then fun i j => decide (j = i + 1) else if r.kd at_ = 19 then fun i j => decide (j = i) && r.h at_ i
    else if r.kd at_ = 20 then altT (reachT r n f (r.k0 at_)) (reachT r n f (r.k1 at_))
    else if r.kd at_ = 21 then prodT n (reachT r n f (r.k0 at_)) (reachT r n f (r.k1 at_))
    else if r.kd at_ = 22 then sqT n n 1 (idT (reachT r n f (r.k0 at_))) else fun _ _ => false
theorem way_on (r : Rx) (n f at_ : Nat) : On n (wayP r n f at_) := fun i j h => by
  cases f with
  | zero => exact h.elim
  | succ f => exact ⟨h.1, h.2.1⟩
theorem way_le (r : Rx) (n : Nat) : ∀ f at_ i j, wayP r n f at_ i j → i ≤ j := by
  intro f
  induction f with
  | zero => intro at_ i j h; exact h.elim
  | succ f ih =>
    intro at_ i j h
    have h := h.2.2
    split at h
    · omega
    · split at h
      · omega
      · split at h
        · exact h.elim (ih _ i j) (ih _ i j)
        · split at h
          · obtain ⟨k, h1, h2⟩ := h
            exact Nat.le_trans (ih _ i k h1) (ih _ k j h2)
          · split at h
            · exact chain_le (ih _) h
            · exact h.elim
theorem two_pow_big (n : Nat) : n < 2 ^ n := Nat.lt_two_pow_self
theorem reach_tells (r : Rx) (n : Nat) : ∀ f at_, Tells n (reachT r n f at_) (wayP r n f at_) := by
  intro f
  induction f with
  | zero => intro at_ i j _ _; exact ⟨fun h => (by cases h), fun h => h.elim⟩
  | succ f ih =>
    intro at_ i j hi hj
    unfold reachT wayP
    by_cases h1 : r.kd at_ = 18
    · rw [if_pos h1, if_pos h1, decide_eq_true_eq]
      exact ⟨fun h => ⟨hi, hj, h⟩, fun h => h.2.2⟩
    rw [if_neg h1, if_neg h1]
    by_cases h2 : r.kd at_ = 19
    · rw [if_pos h2, if_pos h2, Bool.and_eq_true, decide_eq_true_eq]
      exact ⟨fun h => ⟨hi, hj, h⟩, fun h => h.2.2⟩
    rw [if_neg h2, if_neg h2]
    by_cases h3 : r.kd at_ = 20
    · rw [if_pos h3, if_pos h3]
      unfold altT
      rw [Bool.or_eq_true, ih _ i j hi hj, ih _ i j hi hj]
      exact ⟨fun h => ⟨hi, hj, h⟩, fun h => h.2.2⟩
    rw [if_neg h3, if_neg h3]
    by_cases h4 : r.kd at_ = 21
    · rw [if_pos h4, if_pos h4, prod_tells (ih _) (ih _) (way_on r n f _) i j hi hj]
      exact ⟨fun h => ⟨hi, hj, h⟩, fun h => h.2.2⟩
    rw [if_neg h4, if_neg h4]
    by_cases h5 : r.kd at_ = 22
    · rw [if_pos h5, if_pos h5, sq_tells (way_on r n f _) (way_le r n f _) n 1 _ (by omega) (id_tells (ih _)) (by have := two_pow_big n; omega) i j hi hj]
      exact ⟨fun h => ⟨hi, hj, h⟩, fun h => h.2.2⟩
    rw [if_neg h5, if_neg h5]
    exact ⟨fun h => (by cases h), fun h => h.2.2.elim⟩
end Go.Proofs.Ytcpmcgbjmncalaa.Paths
