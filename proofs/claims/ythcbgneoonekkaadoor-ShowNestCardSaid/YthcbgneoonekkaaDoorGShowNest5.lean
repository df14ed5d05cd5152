/-
  Kinds of nodes in plain arithmetic, and the reference's small functions on them. Lists of nodes that may be, as a run over the nodes with the open ones. What is told of lists of nodes, as plain functions.
    Made of several texts by wip/tools/mergetpl.py. By an AI agent.
-/
import Derived.Test.YthcbgneoonekkaaDoorGShowNest3
import Derived.Test.YthcbgneoonekkaaDoorChecked
import Derived.WalkKit
import Derived.WalkSpells
import Derived.Below
import Derived.Lib.Hide
import Derived.Test.YthcbgneoonekkaaDoorGShowNest1
import Derived.Deep.Slices
import Derived.Deep.Fields
import Derived.ChangeSame
import Derived.ChangeArms
import Derived.ChangeSlices
import Derived.Laws.StructEq
import Derived.IntWalk
import Derived.Deep.QuietTactic
import Derived.BigQuiet
import Derived.Test.YthcbgneoonekkaaDoorGShowNest4
/- Kinds of nodes in plain arithmetic, and the reference's small functions on them. By an AI agent. -/
namespace Go.Proofs.YthcbgneoonekkaaDoor.Tree
open Go.RowKit

def none0 : List Int := [1, 2, 3, 18]
def twos : List Int := [5, 6, 7, 14, 15, 20, 21]
/-- How many kids a kind has; -1: it is none. -/
def arity (k : Int) : Int := if k ∈ none0 then 0 else if k ∈ twos then 2 else if k < 1 ∨ 22 < k then -1 else 1
def formKind (k : Int) : Bool := decide (1 ≤ k ∧ k ≤ 17)
def timed (k : Int) : Bool := decide (8 ≤ k ∧ k ≤ 17)
def regs : List Int := [16, 17, 20, 21, 22]
def fits (k c : Int) : Bool := if k ∈ regs then !(formKind c) else formKind c

theorem arity_ways (k : Int) : (k = 1 ∨ k = 2 ∨ k = 3 ∨ k = 18) ∨ (k = 5 ∨ k = 6 ∨ k = 7 ∨ k = 14 ∨ k = 15 ∨ k = 20 ∨ k = 21) ∨
    ((k == 1) = false ∧ (k == 2) = false ∧ (k == 3) = false ∧ (k == 18) = false ∧ (k == 5) = false ∧ (k == 6) = false ∧ (k == 7) = false ∧ (k == 14) = false ∧ (k == 15) = false ∧ (k == 20) = false ∧ (k == 21) = false ∧
      arity k = if k < 1 ∨ 22 < k then -1 else 1) := by
  by_cases h1 : k = 1 ∨ k = 2 ∨ k = 3 ∨ k = 18
  · exact Or.inl h1
  · by_cases h2 : k = 5 ∨ k = 6 ∨ k = 7 ∨ k = 14 ∨ k = 15 ∨ k = 20 ∨ k = 21
    · exact Or.inr (Or.inl h2)
    · refine Or.inr (Or.inr ?_)
      simp only [beq_eq_false_iff_ne]
      refine ⟨by omega, by omega, by omega, by omega, by omega, by omega, by omega, by omega, by omega, by omega, by omega, ?_⟩
      unfold arity
      rw [if_neg (by simp only [none0, List.mem_cons, List.not_mem_nil, or_false]; exact h1), if_neg (by simp only [twos, List.mem_cons, List.not_mem_nil, or_false]; exact h2)]

end Go.Proofs.YthcbgneoonekkaaDoor.Tree
/- Lists of nodes that may be, as a run over the nodes with the open ones. By an AI agent. -/
namespace Go.Proofs.YthcbgneoonekkaaDoor.Tree
open Go.RowKit

def okShape (n : Nd) (have_ : Nat) : Bool :=
  decide (0 ≤ arity n.kind) && (decide ((n.kids.length : Int) = arity n.kind) && (decide (arity n.kind ≤ have_) && ((decide (n.kind ≠ 3) || Lex.nameS n.name.data.toList) && (decide (n.kind = 3) || decide (n.name.data.toList = [])))))
def okSpan (n : Nd) : Bool := if timed n.kind then Ival.mayS n.lo n.hi else decide (n.lo = 0 ∧ n.hi = 0)
def okKid (l : List Nd) (n : Nd) (k : Int) (t : Nat) : Bool := decide (k = (t : Int)) && fits n.kind ((l[t]?.map (·.kind)).getD 0)
def okKids (l : List Nd) (n : Nd) : List Int → List Nat → Bool
  | k :: ks, t :: ts => okKid l n k t && okKids l n ks ts
  | [], [] => true
  | _, _ => false
def mayStep (l : List Nd) (st : List Nat) (i : Nat) : Option (List Nat) :=
  match l[i]? with
  | none => none
  | some n => if okShape n st.length = true ∧ okSpan n = true ∧ okKids l n n.kids (st.drop (st.length - n.kids.length)) = true then some (st.take (st.length - n.kids.length) ++ [i]) else none
def mayUpTo (l : List Nd) : Nat → Option (List Nat)
  | 0 => some []
  | i + 1 => (mayUpTo l i).bind fun st => mayStep l st i
def mayL (l : List Nd) : Bool :=
  match mayUpTo l l.length with
  | some st => decide (st.length = 1)
  | none => false

theorem upTo_none (l : List Nd) (i : Nat) (h : mayUpTo l i = none) : ∀ j, i ≤ j → mayUpTo l j = none := by
  intro j hj
  induction j with
  | zero =>
    have : i = 0 := by omega
    subst this; exact h
  | succ j ih =>
    by_cases he : i = j + 1
    · subst he; exact h
    · rw [mayUpTo, ih (by omega)]
      rfl
theorem may_stop {l : List Nd} {i : Nat} {st : List Nat} (h : mayUpTo l i = some st) (hi : i < l.length) (hs : mayStep l st i = none) : mayL l = false := by
  have h1 : mayUpTo l (i + 1) = none := by rw [mayUpTo, h]; exact hs
  have h2 := upTo_none l (i + 1) h1 l.length (by omega)
  unfold mayL
  rw [h2]
theorem may_end {l : List Nd} {st : List Nat} (h : mayUpTo l l.length = some st) : mayL l = decide (st.length = 1) := by
  unfold mayL
  rw [h]
theorem may_go {l : List Nd} {i : Nat} {st st' : List Nat} (h : mayUpTo l i = some st) (hs : mayStep l st i = some st') : mayUpTo l (i + 1) = some st' := by
  rw [mayUpTo, h]; exact hs
theorem upTo_lt (l : List Nd) : ∀ (i : Nat) (st : List Nat), mayUpTo l i = some st → (∀ x ∈ st, x < i) ∧ st.length ≤ i := by
  intro i
  induction i with
  | zero => intro st h; cases h; simp
  | succ i ih =>
    intro st h
    rw [mayUpTo] at h
    obtain ⟨s0, h1, h2⟩ := Option.bind_eq_some_iff.1 h
    obtain ⟨a, b⟩ := ih s0 h1
    unfold mayStep at h2
    split at h2
    · cases h2
    · split at h2
      · cases h2
        refine ⟨fun x hx => ?_, ?_⟩
        · rcases List.mem_append.1 hx with hx | hx
          · have := a x (List.mem_of_mem_take hx); omega
          · rw [List.mem_singleton.1 hx]; omega
        · simp only [List.length_append, List.length_take, List.length_singleton]
          omega
      · cases h2
theorem okKids_at {l : List Nd} {n : Nd} : ∀ (ks : List Int) (ts : List Nat), ks.length = ts.length → (okKids l n ks ts = true ↔ ∀ (j : Nat) (k : Int) (t : Nat), ks[j]? = some k → ts[j]? = some t → okKid l n k t = true)
  | [], [], _ => by simp [okKids]
  | k :: ks, t :: ts, h => by
    have ih := okKids_at (l := l) (n := n) ks ts (by simpa using h)
    simp only [okKids, Bool.and_eq_true, ih]
    constructor
    · rintro ⟨h1, h2⟩ j x y hx hy
      cases j with
      | zero => simp only [List.getElem?_cons_zero, Option.some.injEq] at hx hy; subst hx; subst hy; exact h1
      | succ j => exact h2 j x y (by simpa using hx) (by simpa using hy)
    · intro h1
      exact ⟨h1 0 k t rfl rfl, fun j x y hx hy => h1 (j + 1) x y (by simpa using hx) (by simpa using hy)⟩
  | [], _ :: _, h => by simp at h
  | _ :: _, [], h => by simp at h
theorem okKids_bad {l : List Nd} {n : Nd} {ks : List Int} {ts : List Nat} (j : Nat) {k : Int} {t : Nat} (h1 : ks[j]? = some k) (h2 : ts[j]? = some t) (h : okKid l n k t = false) : okKids l n ks ts = false := by
  rcases hb : okKids l n ks ts
  · rfl
  · by_cases hl : ks.length = ts.length
    · have := (okKids_at ks ts hl).1 hb j k t h1 h2
      rw [h] at this
      cases this
    · exfalso
      clear h1 h2 h
      revert hb hl
      induction ks generalizing ts with
      | nil => cases ts with
        | nil => simp
        | cons t ts => simp [okKids]
      | cons k ks ih => cases ts with
        | nil => simp [okKids]
        | cons t ts =>
          simp only [okKids, Bool.and_eq_true, List.length_cons]
          intro hb hl
          exact ih hb.2 (by omega)
end Go.Proofs.YthcbgneoonekkaaDoor.Tree

/- What is told of lists of nodes, as plain functions. By an AI agent. -/
namespace Go.Proofs.YthcbgneoonekkaaDoor.Tree
open Go.RowKit


/-! ### a list that may be: its kids stand ahead -/
theorem may_all {l : List Nd} (h : mayL l = true) : ∃ st, mayUpTo l l.length = some st ∧ st.length = 1 := by
  unfold mayL at h
  cases hs : mayUpTo l l.length with
  | none => rw [hs] at h; cases h
  | some st => rw [hs] at h; exact ⟨st, rfl, of_decide_eq_true h⟩
theorem upTo_some {l : List Nd} {i : Nat} (h : (mayUpTo l l.length).isSome = true) (hi : i ≤ l.length) : ∃ st, mayUpTo l i = some st := by
  cases hs : mayUpTo l i with
  | some st => exact ⟨st, rfl⟩
  | none =>
    rw [upTo_none l i hs l.length hi] at h
    cases h
theorem may_ne {l : List Nd} (h : mayL l = true) : 0 < l.length := by
  obtain ⟨st, h1, h2⟩ := may_all h
  have := (upTo_lt l l.length st h1).2
  omega
/-- What a step asks of a node. -/
theorem may_node {l : List Nd} (h : mayL l = true) {i : Nat} {n : Nd} (hi : l[i]? = some n) :
    ∃ st, mayUpTo l i = some st ∧ okShape n st.length = true ∧ okSpan n = true ∧ okKids l n n.kids (st.drop (st.length - n.kids.length)) = true := by
  obtain ⟨s, h1, -⟩ := may_all h
  have hlt : i < l.length := (List.getElem?_eq_some_iff.1 hi).1
  obtain ⟨st, hst⟩ := upTo_some (l := l) (i := i) (by rw [h1]; rfl) (Nat.le_of_lt hlt)
  obtain ⟨st', hst'⟩ := upTo_some (l := l) (i := i + 1) (by rw [h1]; rfl) hlt
  rw [mayUpTo, hst] at hst'
  have hs : mayStep l st i = some st' := hst'
  unfold mayStep at hs
  rw [hi] at hs
  simp only at hs
  split at hs
  · rename_i hc; exact ⟨st, hst, hc⟩
  · cases hs
theorem shape_parts {n : Nd} {k : Nat} (h : okShape n k = true) : 0 ≤ arity n.kind ∧ (n.kids.length : Int) = arity n.kind ∧ n.kids.length ≤ k ∧ (n.kind = 3 → Lex.nameS n.name.data.toList = true) ∧ (n.kind ≠ 3 → n.name.data.toList = []) := by
  unfold okShape at h
  simp only [Bool.and_eq_true, Bool.or_eq_true, decide_eq_true_eq] at h
  obtain ⟨h1, h2, h3, h4, h5⟩ := h
  refine ⟨h1, h2, by omega, fun h3 => h4.resolve_left (fun x => x h3), fun h3 => h5.resolve_left h3⟩
/-- The kids of a node of a list that may be stand ahead of it. -/
theorem may_kids {l : List Nd} (h : mayL l = true) {i : Nat} {n : Nd} (hi : l[i]? = some n) : ∀ k ∈ n.kids, 0 ≤ k ∧ k < (i : Int) := by
  obtain ⟨st, h1, h2, h3, h4⟩ := may_node h hi
  have hlt := (upTo_lt l i st h1).1
  have hk := (shape_parts h2).2.2.1
  intro k hm
  obtain ⟨j, hj, rfl⟩ := List.getElem_of_mem hm
  have hl : n.kids.length = (st.drop (st.length - n.kids.length)).length := by rw [List.length_drop]; omega
  have hj2 : j < (st.drop (st.length - n.kids.length)).length := by omega
  have := (okKids_at _ _ hl).1 h4 j _ _ (List.getElem?_eq_getElem hj) (List.getElem?_eq_getElem hj2)
  unfold okKid at this
  simp only [Bool.and_eq_true, decide_eq_true_eq] at this
  have h5 := hlt _ (List.mem_of_mem_drop (List.getElem_mem hj2))
  rw [this.1]
  omega
theorem may_arity {l : List Nd} (h : mayL l = true) {i : Nat} {n : Nd} (hi : l[i]? = some n) : n.kids.length ≤ 2 := by
  obtain ⟨st, h1, h2, -, -⟩ := may_node h hi
  obtain ⟨-, h3, -⟩ := shape_parts h2
  unfold arity at h3
  split at h3
  · omega
  · split at h3
    · omega
    · split at h3 <;> omega

theorem kid_nat {l : List Nd} (h : mayL l = true) {i : Nat} {n : Nd} (hi : l[i]? = some n) {j : Nat} (hj : j < n.kids.length) : ∃ t : Nat, n.kids[j]?.getD 0 = (t : Int) ∧ t < i ∧ n.kids.take (j + 1) = n.kids.take j ++ [(t : Int)] := by
  have := may_kids h hi n.kids[j] (List.getElem_mem hj)
  obtain ⟨t, ht⟩ := Int.eq_ofNat_of_zero_le this.1
  refine ⟨t, by rw [List.getElem?_eq_getElem hj]; exact ht, by omega, ?_⟩
  rw [List.take_succ_eq_append_getElem hj, ht]

/-! ### the functions -/
def lastKind (l : List Nd) : Int := (l.getLast?.map (·.kind)).getD 0
def formL (l : List Nd) : Bool := mayL l && formKind (lastKind l)
def regL (l : List Nd) : Bool := mayL l && !formKind (lastKind l)
def sweet (k : Int) : Bool := decide (k = 7) || decide (8 ≤ k ∧ k ≤ 15)
def plainL (l : List Nd) : Bool := (l.all fun n => !sweet n.kind) && mayL l
def sameL (a b : List Nd) : Bool := mayL a && (mayL b && decide (a = b))
/-- The depths of the nodes, one by one. -/
def deep (ds : List Int) (ks : List Int) : Int := ks.foldl (fun m k => max m (ds[k.toNat]?.getD 0)) 0
def depths (l : List Nd) : List Int := l.foldl (fun ds n => ds ++ [deep ds n.kids + 1]) []
def depthL (l : List Nd) : Int := if mayL l = true then (depths l).getLast?.getD 0 else 0
/-- Where what is below a node begins. -/
def startF (l : List Nd) : Nat → Nat → Nat
  | 0, i => i
  | f + 1, i => match l[i]? with
    | none => i
    | some n => match n.kids with
      | [] => i
      | k :: _ => startF l f k.toNat
def startL (l : List Nd) (i : Nat) : Nat := startF l (i + 1) i
def shiftNd (d : Int) (n : Nd) : Nd := { n with kids := n.kids.map (· + d) }
def partL (l : List Nd) (i : Int) : List Nd :=
  if mayL l = true ∧ 0 ≤ i ∧ i < l.length then ((l.take (i.toNat + 1)).drop (startL l i.toNat)).map (shiftNd (-(startL l i.toNat : Int))) else []
def nameNext (out : List (List UInt8)) (n : Nd) : List (List UInt8) := if n.kind = 3 ∧ n.name.data.toList ∉ out then out ++ [n.name.data.toList] else out
def propNames (l : List Nd) : List (List UInt8) := l.foldl nameNext []
def namesL (l : List Nd) : List (List UInt8) := if mayL l = true then (propNames l).mergeSort (fun x y => decide (x ≤ y)) else []
def overL (n : Nd) (a b : List Nd) : List Nd :=
  a ++ b.map (shiftNd a.length) ++ [{ n with kids := (if a = [] then [] else [(a.length : Int) - 1]) ++ (if b = [] then [] else [(a.length : Int) + b.length - 1]) }]
def joinL (n : Nd) (kids : List (List Nd)) : List Nd :=
  if arity n.kind = kids.length ∧ (kids.all mayL) = true then
    (if mayL (overL n (kids.headD []) (kids.tail.getLastD [])) = true then overL n (kids.headD []) (kids.tail.getLastD []) else [])
  else []
theorem depths_snoc (l : List Nd) (n : Nd) : depths (l ++ [n]) = depths l ++ [deep (depths l) n.kids + 1] := by
  unfold depths; rw [List.foldl_append]; rfl
theorem depths_len (l : List Nd) : (depths l).length = l.length := by
  have key : ∀ (l : List Nd) (ds : List Int), (l.foldl (fun ds n => ds ++ [deep ds n.kids + 1]) ds).length = ds.length + l.length := by
    intro l
    induction l with
    | nil => intro ds; rfl
    | cons n l ih =>
      intro ds
      rw [List.foldl_cons, ih, List.length_append, List.length_cons, List.length_nil, List.length_cons]
      omega
  have := key l []
  simpa [depths] using this
end Go.Proofs.YthcbgneoonekkaaDoor.Tree
