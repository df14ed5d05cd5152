/-
  What is told of lists of nodes, as plain functions. By an AI agent.
-/
import Derived.Test.YtmahbocelckmcaaTreeMath
namespace Go.Proofs.Ytmahbocelckmcaa.Tree
open Go.RowKit

deriving instance DecidableEq for Nd

/-! ### a list that may be: its kids stand ahead -/
theorem may_all {l : List Nd} (h : mayL l = true) : ∃ st, mayUpTo l l.length = some st ∧ st.length = 1 := by
  unfold mayL at h
  cases hs : mayUpTo l l.length with
  | none => rw [hs] at h; cases h
  | some st => rw [hs] at h; exact ⟨st, rfl, of_decide_eq_true h⟩
theorem upTo_some {l : List Nd} {i : Nat} (h : (mayUpTo l l.length).isSome = true) (hi : i ≤ l.length) : ∃ st, mayUpTo l i = some st := by
  cases hs : mayUpTo l i with
  | some st => exact ⟨st, rfl⟩
  | none =>
    rw [upTo_none l i hs l.length hi] at h
    cases h
theorem may_ne {l : List Nd} (h : mayL l = true) : 0 < l.length := by
  obtain ⟨st, h1, h2⟩ := may_all h
  have := (upTo_lt l l.length st h1).2
  omega
/-- What a step asks of a node. -/
theorem may_node {l : List Nd} (h : mayL l = true) {i : Nat} {n : Nd} (hi : l[i]? = some n) :
    ∃ st, mayUpTo l i = some st ∧ okShape n st.length = true ∧ okSpan n = true ∧ okKids l n n.kids (st.drop (st.length - n.kids.length)) = true := by
  obtain ⟨s, h1, -⟩ := may_all h
  have hlt : i < l.length := (List.getElem?_eq_some_iff.1 hi).1
  obtain ⟨st, hst⟩ := upTo_some (l := l) (i := i) (by rw [h1]; rfl) (Nat.le_of_lt hlt)
  obtain ⟨st', hst'⟩ := upTo_some (l := l) (i := i + 1) (by rw [h1]; rfl) hlt
  rw [mayUpTo, hst] at hst'
  have hs : mayStep l st i = some st' := hst'
  unfold mayStep at hs
  rw [hi] at hs
  simp only at hs
  split at hs
  · rename_i hc; exact ⟨st, hst, hc⟩
  · cases hs
theorem shape_parts {n : Nd} {k : Nat} (h : okShape n k = true) : 0 ≤ arity n.kind ∧ (n.kids.length : Int) = arity n.kind ∧ n.kids.length ≤ k ∧ (n.kind = 3 → Lex.nameS n.name.data.toList = true) ∧ (n.kind ≠ 3 → n.name.data.toList = []) := by
  unfold okShape at h
  simp only [Bool.and_eq_true, Bool.or_eq_true, decide_eq_true_eq] at h
  obtain ⟨h1, h2, h3, h4, h5⟩ := h
  refine ⟨h1, h2, by omega, fun h3 => h4.resolve_left (fun x => x h3), fun h3 => h5.resolve_left h3⟩
/-- The kids of a node of a list that may be stand ahead of it. -/
theorem may_kids {l : List Nd} (h : mayL l = true) {i : Nat} {n : Nd} (hi : l[i]? = some n) : ∀ k ∈ n.kids, 0 ≤ k ∧ k < (i : Int) := by
  obtain ⟨st, h1, h2, h3, h4⟩ := may_node h hi
  have hlt := (upTo_lt l i st h1).1
  have hk := (shape_parts h2).2.2.1
  intro k hm
  obtain ⟨j, hj, rfl⟩ := List.getElem_of_mem hm
  have hl : n.kids.length = (st.drop (st.length - n.kids.length)).length := by rw [List.length_drop]; omega
  have hj2 : j < (st.drop (st.length - n.kids.length)).length := by omega
  have := (okKids_at _ _ hl).1 h4 j _ _ (List.getElem?_eq_getElem hj) (List.getElem?_eq_getElem hj2)
  unfold okKid at this
  simp only [Bool.and_eq_true, decide_eq_true_eq] at this
  have h5 := hlt _ (List.mem_of_mem_drop (List.getElem_mem hj2))
  rw [this.1]
  omega
theorem may_arity {l : List Nd} (h : mayL l = true) {i : Nat} {n : Nd} (hi : l[i]? = some n) : n.kids.length ≤ 2 := by
  obtain ⟨st, h1, h2, -, -⟩ := may_node h hi
  obtain ⟨-, h3, -⟩ := shape_parts h2
  unfold arity at h3
  split at h3
  · omega
  · split at h3
    · omega
    · split at h3 <;> omega

theorem kid_nat {l : List Nd} (h : mayL l = true) {i : Nat} {n : Nd} (hi : l[i]? = some n) {j : Nat} (hj : j < n.kids.length) : ∃ t : Nat, n.kids[j]?.getD 0 = (t : Int) ∧ t < i ∧ n.kids.take (j + 1) = n.kids.take j ++ [(t : Int)] := by
  have := may_kids h hi n.kids[j] (List.getElem_mem hj)
  obtain ⟨t, ht⟩ := Int.eq_ofNat_of_zero_le this.1
  refine ⟨t, by rw [List.getElem?_eq_getElem hj]; exact ht, by omega, ?_⟩
  rw [List.take_succ_eq_append_getElem hj, ht]

/-! ### the functions -/
def lastKind (l : List Nd) : Int := (l.getLast?.map (·.kind)).getD 0
def formL (l : List Nd) : Bool := mayL l && formKind (lastKind l)
def regL (l : List Nd) : Bool := mayL l && !formKind (lastKind l)
def sweet (k : Int) : Bool := decide (k = 7) || decide (8 ≤ k ∧ k ≤ 15)
def plainL (l : List Nd) : Bool := (l.all fun n => !sweet n.kind) && mayL l
def sameL (a b : List Nd) : Bool := mayL a && (mayL b && decide (a = b))
/-- The depths of the nodes, one by one. -/
def deep (ds : List Int) (ks : List Int) : Int := ks.foldl (fun m k => max m (ds[k.toNat]?.getD 0)) 0
def depths (l : List Nd) : List Int := l.foldl (fun ds n => ds ++ [deep ds n.kids + 1]) []
def depthL (l : List Nd) : Int := if mayL l = true then (depths l).getLast?.getD 0 else 0
/-- Where what is below a node begins. -/
def startF (l : List Nd) : Nat → Nat → Nat
  | 0, i => i
  | f + 1, i => match l[i]? with
    | none => i
    | some n => match n.kids with
      | [] => i
      | k :: _ => startF l f k.toNat
def startL (l : List Nd) (i : Nat) : Nat := startF l (i + 1) i
def shiftNd (d : Int) (n : Nd) : Nd := { n with kids := n.kids.map (· + d) }
def partL (l : List Nd) (i : Int) : List Nd :=
  if mayL l = true ∧ 0 ≤ i ∧ i < l.length then ((l.take (i.toNat + 1)).drop (startL l i.toNat)).map (shiftNd (-(startL l i.toNat : Int))) else []
def nameNext (out : List (List UInt8)) (n : Nd) : List (List UInt8) := if n.kind = 3 ∧ n.name.data.toList ∉ out then out ++ [n.name.data.toList] else out
def propNames (l : List Nd) : List (List UInt8) := l.foldl nameNext []
def namesL (l : List Nd) : List (List UInt8) := if mayL l = true then (propNames l).mergeSort (fun x y => decide (x ≤ y)) else []
def overL (n : Nd) (a b : List Nd) : List Nd :=
  a ++ b.map (shiftNd a.length) ++ [{ n with kids := (if a = [] then [] else [(a.length : Int) - 1]) ++ (if b = [] then [] else [(a.length : Int) + b.length - 1]) }]
def joinL (n : Nd) (kids : List (List Nd)) : List Nd :=
  if arity n.kind = kids.length ∧ (kids.all mayL) = true then
    (if mayL (overL n (kids.headD []) (kids.tail.getLastD [])) = true then overL n (kids.headD []) (kids.tail.getLastD []) else [])
  else []
theorem depths_snoc (l : List Nd) (n : Nd) : depths (l ++ [n]) = depths l ++ [deep (depths l) n.kids + 1] := by
  unfold depths; rw [List.foldl_append]; rfl
theorem depths_len (l : List Nd) : (depths l).length = l.length := by
  have key : ∀ (l : List Nd) (ds : List Int), (l.foldl (fun ds n => ds ++ [deep ds n.kids + 1]) ds).length = ds.length + l.length := by
    intro l
    induction l with
    | nil => intro ds; rfl
    | cons n l ih =>
      intro ds
      rw [List.foldl_cons, ih, List.length_append, List.length_cons, List.length_nil, List.length_cons]
      omega
  have := key l []
  simpa [depths] using this
end Go.Proofs.Ytmahbocelckmcaa.Tree
