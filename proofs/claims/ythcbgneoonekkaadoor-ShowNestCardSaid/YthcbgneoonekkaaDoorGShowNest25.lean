/-
  How deep a formula's text is nested, in plain lists. By an AI agent.
  append of one integer to a row of the call's own, and where the row then lies. By an AI agent.
  The walk of the reference's Nest. By an AI agent.
-/
import Derived.Test.YthcbgneoonekkaaDoorGShowNest11
import Derived.Test.YthcbgneoonekkaaDoorGShowNest1
import Derived.Maps.AppendAt
import Derived.Test.YthcbgneoonekkaaDoorGShowNest13
import Derived.Test.YthcbgneoonekkaaDoorGShowNest6
import Derived.Laws.MakeOwn
import Derived.RegionTactic
import Derived.ChangeAlike
import Derived.StillTailTactics
import Derived.BigQuiet
import Derived.Deep.QuietTactic
import Derived.Lib.MinMax
namespace Go.Proofs.YthcbgneoonekkaaDoor.Show
open Go.Proofs.YthcbgneoonekkaaDoor.Tree

/-! ### how deep a text is nested -/
def deeper (k : Int) : Bool := decide (k = 4 ∨ (8 ≤ k ∧ k ≤ 13) ∨ k = 16 ∨ k = 17 ∨ k = 19)
def kidN (ds : List Nat) (l : List Nd) (n : Nd) (w : Nat) (k : Int) : Nat := ds.getD k.toNat 0 + if bare n.kind w (kindAt l k) = true then 0 else 1
def kidsN (ds : List Nat) (l : List Nd) (n : Nd) : Nat → List Int → Nat
  | _, [] => 0
  | w, k :: ks => max (kidN ds l n w k) (kidsN ds l n (w + 1) ks)
def nodeN (n : Nd) (x : Nat) : Nat := x + if deeper n.kind = true then 1 else 0
def nestsF (l : List Nd) : List Nd → List Nat → List Nat
  | [], ds => ds
  | n :: r, ds => nestsF l r (ds ++ [nodeN n (kidsN ds l n 0 n.kids)])
def nestsTo (l : List Nd) (k : Nat) : List Nat := nestsF l (l.take k) []
def nst (l : List Nd) (i : Nat) : Nat := (nestsTo l (i + 1)).getD i 0
def nestL (l : List Nd) : Nat := if mayL l = true then nst l (l.length - 1) else 0
theorem nestsF_append (l a b : List Nd) : ∀ ds, nestsF l (a ++ b) ds = nestsF l b (nestsF l a ds) := by
  induction a with
  | nil => intro ds; rfl
  | cons n r ih => intro ds; exact ih _
theorem nestsTo_succ {l : List Nd} {k : Nat} {n : Nd} (h : l[k]? = some n) : nestsTo l (k + 1) = nestsTo l k ++ [nodeN n (kidsN (nestsTo l k) l n 0 n.kids)] := by
  have hk := (List.getElem?_eq_some_iff.1 h).1
  unfold nestsTo
  rw [List.take_succ_eq_append_getElem hk, nestsF_append, (List.getElem?_eq_some_iff.1 h).2]
  rfl
theorem nestsTo_len {l : List Nd} : ∀ {k : Nat}, k ≤ l.length → (nestsTo l k).length = k
  | 0, _ => rfl
  | k + 1, h => by
    obtain ⟨n, hn⟩ : ∃ n, l[k]? = some n := ⟨_, List.getElem?_eq_getElem (by omega)⟩
    rw [nestsTo_succ hn, List.length_append, nestsTo_len (k := k) (by omega)]
    rfl
theorem nestsTo_low {l : List Nd} {j : Nat} : ∀ {k : Nat}, j < k → k ≤ l.length → (nestsTo l k).getD j 0 = nst l j
  | 0, h, _ => absurd h (Nat.not_lt_zero _)
  | k + 1, h, hk => by
    by_cases e : j = k
    · rw [e]; rfl
    · obtain ⟨n, hn⟩ : ∃ n, l[k]? = some n := ⟨_, List.getElem?_eq_getElem (by omega)⟩
      rw [nestsTo_succ hn, getD_left (by rw [nestsTo_len (by omega)]; omega)]
      exact nestsTo_low (by omega) (by omega)
theorem nst_node {l : List Nd} {i : Nat} {n : Nd} (h : l[i]? = some n) : nst l i = nodeN n (kidsN (nestsTo l i) l n 0 n.kids) := by
  have hi := (List.getElem?_eq_some_iff.1 h).1
  unfold nst
  rw [nestsTo_succ h, getD_last (by rw [nestsTo_len (by omega)])]
/-- How deep a kid's text is. -/
def kidD (l : List Nd) (n : Nd) (w t : Nat) : Nat := nst l t + if bare n.kind w (kindAt l (t : Int)) = true then 0 else 1
theorem kidN_at {l : List Nd} {n : Nd} {w t k : Nat} (h : t < k) (hk : k ≤ l.length) : kidN (nestsTo l k) l n w (t : Int) = kidD l n w t := by
  unfold kidN kidD
  rw [Int.toNat_natCast, nestsTo_low h hk]

end Go.Proofs.YthcbgneoonekkaaDoor.Show

namespace Go.Proofs.YthcbgneoonekkaaDoor.Ints
open Go.RowKit

theorem own_weaken {w : World} {base base' : Nat} {e : TypeId} {size : Nat} {v : Value} {n : Nat} {xs : List Value} (h : w.ownsRow base e size v n xs) (hb : base' ≤ base) : w.ownsRow base' e size v n xs := by
  refine ⟨h.1, ?_⟩
  rcases h.2 with h2 | ⟨g, cap, cur, h3, h4, h5⟩
  · exact .inl h2
  · exact .inr ⟨g, cap, cur, h3, Nat.le_trans hb h4, h5⟩

section
variable {P : Program} {w : World}
/-- 'append(v, y)': v is the call's own row of integers; y lies in a new block. -/
theorem wpList_append_int1 {ops : Array Oper} {rest : List Oper} {o : Oper} {a : Act} {Q : Exit → Act → World → Prop} (hgd : o.guard = none) (s x : Operand) (t : TypeId)
    (ho : o.op = .call { callee := .builtin .append, args := #[s, x], argTypes := #[t, t] }) (k : IntKind) (base : Nat) (e : TypeId) (i : TypeInfo)
    (ht : P.underlying t = some (.slice e)) (hi : P.info? e = some i) (hz : i.zero = some (.int k 0)) (hsize : i.size = 1) (hby : i.bytes = 8)
    (v : Value) (n : Nat) (zs : List Int) (hs : a.eval s = v) (hown : w.ownsRow base e 1 v n (zs.map (Value.int k)))
    (y : Int) (T : TypeId) (cs : Array Value) (hcs : cs = #[.int k y]) (H : Nat) (hH : w.heap.size = H) (hx : a.eval x = .slice (some ⟨H, 0, none⟩) 1 1)
    (hl : n ≤ 4194304) (hbase : base ≤ w.heap.size)
    (h : ∀ v' w', w'.ownsRow base e 1 v' (n + 1) ((zs ++ [y]).map (Value.int k)) → (w.alloc (.cells cs T)).grownBy w' v.ownBlock → (v'.ownBlock = v.ownBlock ∨ v'.ownBlock = some (w.alloc (.cells cs T)).heap.size) → wpList P ops Q rest (a.put o.dst v') w') : wpList P ops Q (o :: rest) a (w.alloc (.cells cs T)) := by
  subst hcs
  subst hH
  refine wpList_plain hgd fun K hK => ?_
  obtain ⟨v', w', hrun, h1, h2, -, h4⟩ := run_append_own_at (P := P) (w.alloc (.cells #[.int k y] T)) base t o.type e i (.int k 0) 1 8 ht hi hz hsize hby rfl (by decide) v n _ (hown.alloc _) ⟨w.heap.size, 0, none⟩ 1 1 [.int k y] rfl (fun j u hu => by
      have hj : j = 0 := by
        rcases j with _ | j
        · rfl
        · simp at hu
      subst hj
      rw [show (⟨w.heap.size, 0, none⟩ : Addr).add 0 = ⟨w.heap.size, 0, none⟩ by unfold Addr.add; simp]
      rw [cell_of_row _ w.heap.size 0 _ T (0, 0) (heap_alloc_new w _)]
      simpa using hu) (fun u hu => by rw [List.mem_singleton.1 hu]; rfl) (by have : maxLen = 9223372036854775807 := rfl; omega) (by omega) (by simp; omega)
  unfold Oper.wp
  simp [execOp, ho, resolve, invoke, builtin, hs, hx, hrun, Result.andThen]
  exact hK _ _ (h v' w' (by rw [List.map_append]; exact h1) h2 h4)
/-- 'append(v, y)': v is the call's own row of one-cell values; y lies in a new block. -/
theorem wpList_append_one {ops : Array Oper} {rest : List Oper} {o : Oper} {a : Act} {Q : Exit → Act → World → Prop} (hgd : o.guard = none) (s x : Operand) (t : TypeId)
    (ho : o.op = .call { callee := .builtin .append, args := #[s, x], argTypes := #[t, t] }) (base : Nat) (e : TypeId) (i : TypeInfo) (z : Value) (nb : Nat)
    (ht : P.underlying t = some (.slice e)) (hi : P.info? e = some i) (hz : i.zero = some z) (hsize : i.size = 1) (hby : i.bytes = nb) (hzs : z.cells.size = 1) (hnb : nb ≤ 64)
    (v : Value) (n : Nat) (xs : List Value) (hs : a.eval s = v) (hown : w.ownsRow base e 1 v n xs)
    (y : Value) (hy : y.oneCell' = true) (T : TypeId) (cs : Array Value) (hcs : cs = #[y]) (H : Nat) (hH : w.heap.size = H) (hx : a.eval x = .slice (some ⟨H, 0, none⟩) 1 1)
    (hl : n ≤ 1048576) (hbase : base ≤ w.heap.size)
    (h : ∀ v' w', w'.ownsRow base e 1 v' (n + 1) (xs ++ [y]) → (w.alloc (.cells cs T)).grownBy w' v.ownBlock → (v'.ownBlock = v.ownBlock ∨ v'.ownBlock = some (w.alloc (.cells cs T)).heap.size) → wpList P ops Q rest (a.put o.dst v') w') : wpList P ops Q (o :: rest) a (w.alloc (.cells cs T)) := by
  subst hcs
  subst hH
  refine wpList_plain hgd fun K hK => ?_
  obtain ⟨v', w', hrun, h1, h2, -, h4⟩ := run_append_own_at (P := P) (w.alloc (.cells #[y] T)) base t o.type e i z 1 nb ht hi hz hsize hby hzs (by decide) v n _ (hown.alloc _) ⟨w.heap.size, 0, none⟩ 1 1 [y] rfl (fun j u hu => by
      have hj : j = 0 := by
        rcases j with _ | j
        · rfl
        · simp at hu
      subst hj
      rw [show (⟨w.heap.size, 0, none⟩ : Addr).add 0 = ⟨w.heap.size, 0, none⟩ by unfold Addr.add; simp]
      rw [cell_of_row _ w.heap.size 0 _ T (0, 0) (heap_alloc_new w _)]
      simpa using hu) (fun u hu => by rw [List.mem_singleton.1 hu]; exact hy) (by have : maxLen = 9223372036854775807 := rfl; omega) (by have : (n + 1) * nb ≤ 1048577 * 64 := Nat.mul_le_mul (by omega) hnb; omega) (by simp; omega)
  unfold Oper.wp
  simp [execOp, ho, resolve, invoke, builtin, hs, hx, hrun, Result.andThen]
  exact hK _ _ (h v' w' h1 h2 h4)
end
end Go.Proofs.YthcbgneoonekkaaDoor.Ints

namespace Go.Proofs.YthcbgneoonekkaaDoor.Show
open Go.RowKit Go.Proofs.YthcbgneoonekkaaDoor.Tree Go.Proofs.YthcbgneoonekkaaDoor.Itoa Go.Proofs.YthcbgneoonekkaaDoor.Ints
open Go.Proofs.YthcbgneoonekkaaDoor.Parse (Blk Blk.new)

theorem kidsN_snoc (ds : List Nat) (l : List Nd) (n : Nd) (k : Int) : ∀ (ks : List Int) (w : Nat), kidsN ds l n w (ks ++ [k]) = max (kidsN ds l n w ks) (kidN ds l n (w + ks.length) k)
  | [], w => by simp [kidsN]
  | x :: r, w => by
    rw [List.cons_append]
    show max (kidN ds l n w x) (kidsN ds l n (w + 1) (r ++ [k])) = max (max (kidN ds l n w x) (kidsN ds l n (w + 1) r)) _
    rw [kidsN_snoc ds l n k r (w + 1), List.length_cons, show w + 1 + r.length = w + (r.length + 1) by omega, Nat.max_assoc]
theorem nst_bound {l : List Nd} (h : mayL l = true) : ∀ i, i < l.length → nst l i ≤ 2 * i + 2 := by
  intro i
  induction i using Nat.strongRecOn with
  | ind i ih =>
    intro hi
    obtain ⟨n, hn⟩ : ∃ n, l[i]? = some n := ⟨_, List.getElem?_eq_getElem hi⟩
    have hd : (if deeper n.kind = true then 1 else 0) ≤ 1 := by split <;> omega
    have hkd : ∀ w t, t < i → kidD l n w t ≤ 2 * t + 3 := by
      intro w t ht
      have := ih t ht (by omega)
      unfold kidD
      split <;> omega
    rw [nst_node hn]
    unfold nodeN
    obtain ⟨-, -, hk⟩ := kids_at h hn
    rcases hk with ⟨e, -, -⟩ | ⟨t, e, -, -, -, hti⟩ | ⟨t, u, e, -, -, hle, -, htu, hui⟩
    · rw [e]; show 0 + _ ≤ _; omega
    · rw [e]
      show max (kidN (nestsTo l i) l n 0 (t : Int)) 0 + _ ≤ _
      rw [kidN_at (by omega) (by omega)]
      have := hkd 0 t (by omega)
      omega
    · rw [e]
      show max (kidN (nestsTo l i) l n 0 (t : Int)) (max (kidN (nestsTo l i) l n 1 (u : Int)) 0) + _ ≤ _
      rw [kidN_at (by omega) (by omega), kidN_at (by omega) (by omega)]
      have := hkd 0 t (by omega)
      have := hkd 1 u (by omega)
      omega
def ints' (ds : List Nat) : List Int := ds.map fun x : Nat => (x : Int)
def nRow (n k : Nat) (l : List Nd) (v : Nat) : List Int := ints' (nestsTo l k) ++ (v : Int) :: List.replicate (n - k - 1) 0
def nAt (n k : Nat) (l : List Nd) : List Int := if k < n then nRow n k l 0 else ints' (nestsTo l k)
theorem ints_len (ds : List Nat) : (ints' ds).length = ds.length := List.length_map ..
theorem ints_at {ds : List Nat} {j : Nat} (h : j < ds.length) : (ints' ds)[j]?.getD 0 = ((ds.getD j 0 : Nat) : Int) := by
  unfold ints'
  rw [List.getElem?_map, List.getD_eq_getElem?_getD, List.getElem?_eq_getElem h]
  rfl
theorem nRow_at {n k : Nat} {l : List Nd} (hl : l.length = n) (hk : k < n) (v : Nat) : (nRow n k l v)[k]?.getD 0 = (v : Int) := by
  have : (ints' (nestsTo l k)).length = k := by rw [ints_len, nestsTo_len (by omega)]
  unfold nRow
  rw [List.getElem?_append_right (by omega), this]
  simp
theorem nRow_low {n k j : Nat} {l : List Nd} (hl : l.length = n) (hk : k < n) (hj : j < k) (v : Nat) : (nRow n k l v)[j]?.getD 0 = ((nst l j : Nat) : Int) := by
  have h1 : (nestsTo l k).length = k := nestsTo_len (by omega)
  unfold nRow
  rw [List.getElem?_append_left (by rw [ints_len]; omega), ints_at (by omega), nestsTo_low hj (by omega)]
theorem nRow_set {n k : Nat} {l : List Nd} (hl : l.length = n) (hk : k < n) (v u : Nat) : (nRow n k l v).set k (u : Int) = nRow n k l u := by
  have : (ints' (nestsTo l k)).length = k := by rw [ints_len, nestsTo_len (by omega)]
  unfold nRow
  rw [List.set_append_right _ _ (by omega), this, Nat.sub_self]
  rfl
theorem nRow_next {n k : Nat} {l : List Nd} {nd : Nd} (hl : l.length = n) (hnd : l[k]? = some nd) : nRow n k l (nst l k) = nAt n (k + 1) l := by
  have hk := (List.getElem?_eq_some_iff.1 hnd).1
  have e0 : ints' (nestsTo l (k + 1)) = ints' (nestsTo l k) ++ [((nst l k : Nat) : Int)] := by
    rw [nestsTo_succ hnd, nst_node hnd]
    unfold ints'
    rw [List.map_append]
    rfl
  unfold nAt nRow
  by_cases h : k + 1 < n
  · rw [if_pos h]
    show ints' (nestsTo l k) ++ ((nst l k : Nat) : Int) :: List.replicate (n - k - 1) 0 = ints' (nestsTo l (k + 1)) ++ ((0 : Nat) : Int) :: List.replicate (n - (k + 1) - 1) 0
    rw [e0, List.append_assoc]
    congr 1
    have e : n - k - 1 = (n - (k + 1) - 1) + 1 := by omega
    rw [e, List.replicate_succ]; rfl
  · rw [if_neg h, e0]
    have e : n - k - 1 = 0 := by omega
    rw [e, List.replicate_zero]
theorem nRow_start (n : Nat) (l : List Nd) (h0 : 0 < n) : List.replicate n 0 = nAt n 0 l := by
  obtain ⟨m, rfl⟩ : ∃ m, n = m + 1 := ⟨n - 1, by omega⟩
  unfold nAt nRow
  rw [if_pos h0, List.replicate_succ]
  simp [nestsTo, nestsF, ints']
theorem made_nests (n : Nat) : (madeCells (Value.int .i64 0).cells (n * 1)).toList = (List.replicate n (0 : Int)).map (Value.int .i64) := by
  rw [Nat.mul_one]
  apply List.ext_getElem
  · simp [madeCells]
  · intro i h1 h2
    have e : (Value.int .i64 0).cells = #[Value.int .i64 0] := rfl
    simp [madeCells, e, Nat.mod_one]
theorem belN (w : World) (n B : Nat) : Below B w (w.drewN n) := ⟨rfl, rfl, rfl, Nat.le_refl _, fun _ _ => rfl⟩
theorem deeper_ways {k : Int} (h : deeper k = true) : k = 4 ∨ k = 8 ∨ k = 9 ∨ k = 10 ∨ k = 11 ∨ k = 12 ∨ k = 13 ∨ k = 16 ∨ k = 17 ∨ k = 19 := by
  unfold deeper at h
  rw [decide_eq_true_eq] at h
  omega
theorem deeper_not {k : Int} (h : deeper k = false) : (k == 4) = false ∧ (k == 8) = false ∧ (k == 9) = false ∧ (k == 10) = false ∧ (k == 11) = false ∧ (k == 12) = false ∧ (k == 13) = false ∧ (k == 16) = false ∧ (k == 17) = false ∧ (k == 19) = false := by
  unfold deeper at h
  rw [decide_eq_false_iff_not] at h
  simp only [beq_eq_false_iff_ne]
  omega

end Go.Proofs.YthcbgneoonekkaaDoor.Show
