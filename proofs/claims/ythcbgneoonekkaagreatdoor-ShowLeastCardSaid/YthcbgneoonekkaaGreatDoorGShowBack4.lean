/-
  Kinds of nodes in plain arithmetic, and the reference's small functions on them. Lists of nodes that may be, as a run over the nodes with the open ones. What is told of lists of nodes, as plain functions.
    Made of several texts by wip/tools/mergetpl.py. By an AI agent.
  The walk of the reference's May. By an AI agent.
  What a list of nodes that may be asks, as plain functions. By an AI agent.
-/
import Derived.Test.YthcbgneoonekkaaGreatDoorGShowBack2
import Derived.Test.YthcbgneoonekkaaGreatDoorChecked
import Derived.WalkKit
import Derived.WalkSpells
import Derived.Below
import Derived.Lib.Hide
import Derived.Test.YthcbgneoonekkaaGreatDoorGShowBack1
import Derived.Deep.Slices
import Derived.Deep.Fields
import Derived.ChangeSame
import Derived.ChangeArms
import Derived.ChangeSlices
import Derived.Laws.StructEq
import Derived.IntWalk
import Derived.Deep.QuietTactic
import Derived.BigQuiet
import Derived.Test.YthcbgneoonekkaaGreatDoorGShowBack3
import Derived.OwnWalk
/- Kinds of nodes in plain arithmetic, and the reference's small functions on them. By an AI agent. -/
namespace Go.Proofs.YthcbgneoonekkaaGreatDoor.Tree
open Go.RowKit

def none0 : List Int := [1, 2, 3, 18]
def twos : List Int := [5, 6, 7, 14, 15, 20, 21]
/-- How many kids a kind has; -1: it is none. -/
def arity (k : Int) : Int := if k ∈ none0 then 0 else if k ∈ twos then 2 else if k < 1 ∨ 22 < k then -1 else 1
def formKind (k : Int) : Bool := decide (1 ≤ k ∧ k ≤ 17)
def timed (k : Int) : Bool := decide (8 ≤ k ∧ k ≤ 17)
def regs : List Int := [16, 17, 20, 21, 22]
def fits (k c : Int) : Bool := if k ∈ regs then !(formKind c) else formKind c

theorem arity_ways (k : Int) : (k = 1 ∨ k = 2 ∨ k = 3 ∨ k = 18) ∨ (k = 5 ∨ k = 6 ∨ k = 7 ∨ k = 14 ∨ k = 15 ∨ k = 20 ∨ k = 21) ∨
    ((k == 1) = false ∧ (k == 2) = false ∧ (k == 3) = false ∧ (k == 18) = false ∧ (k == 5) = false ∧ (k == 6) = false ∧ (k == 7) = false ∧ (k == 14) = false ∧ (k == 15) = false ∧ (k == 20) = false ∧ (k == 21) = false ∧
      arity k = if k < 1 ∨ 22 < k then -1 else 1) := by
  by_cases h1 : k = 1 ∨ k = 2 ∨ k = 3 ∨ k = 18
  · exact Or.inl h1
  · by_cases h2 : k = 5 ∨ k = 6 ∨ k = 7 ∨ k = 14 ∨ k = 15 ∨ k = 20 ∨ k = 21
    · exact Or.inr (Or.inl h2)
    · refine Or.inr (Or.inr ?_)
      simp only [beq_eq_false_iff_ne]
      refine ⟨by omega, by omega, by omega, by omega, by omega, by omega, by omega, by omega, by omega, by omega, by omega, ?_⟩
      unfold arity
      rw [if_neg (by simp only [none0, List.mem_cons, List.not_mem_nil, or_false]; exact h1), if_neg (by simp only [twos, List.mem_cons, List.not_mem_nil, or_false]; exact h2)]

end Go.Proofs.YthcbgneoonekkaaGreatDoor.Tree
/- Lists of nodes that may be, as a run over the nodes with the open ones. By an AI agent. -/
namespace Go.Proofs.YthcbgneoonekkaaGreatDoor.Tree
open Go.RowKit

def okShape (n : Nd) (have_ : Nat) : Bool :=
  decide (0 ≤ arity n.kind) && (decide ((n.kids.length : Int) = arity n.kind) && (decide (arity n.kind ≤ have_) && ((decide (n.kind ≠ 3) || Lex.nameS n.name.data.toList) && (decide (n.kind = 3) || decide (n.name.data.toList = [])))))
def okSpan (n : Nd) : Bool := if timed n.kind then Ival.mayS n.lo n.hi else decide (n.lo = 0 ∧ n.hi = 0)
def okKid (l : List Nd) (n : Nd) (k : Int) (t : Nat) : Bool := decide (k = (t : Int)) && fits n.kind ((l[t]?.map (·.kind)).getD 0)
def okKids (l : List Nd) (n : Nd) : List Int → List Nat → Bool
  | k :: ks, t :: ts => okKid l n k t && okKids l n ks ts
  | [], [] => true
  | _, _ => false
def mayStep (l : List Nd) (st : List Nat) (i : Nat) : Option (List Nat) :=
  match l[i]? with
  | none => none
  | some n => if okShape n st.length = true ∧ okSpan n = true ∧ okKids l n n.kids (st.drop (st.length - n.kids.length)) = true then some (st.take (st.length - n.kids.length) ++ [i]) else none
def mayUpTo (l : List Nd) : Nat → Option (List Nat)
  | 0 => some []
  | i + 1 => (mayUpTo l i).bind fun st => mayStep l st i
def mayL (l : List Nd) : Bool :=
  match mayUpTo l l.length with
  | some st => decide (st.length = 1)
  | none => false

theorem upTo_none (l : List Nd) (i : Nat) (h : mayUpTo l i = none) : ∀ j, i ≤ j → mayUpTo l j = none := by
  intro j hj
  induction j with
  | zero =>
    have : i = 0 := by omega
    subst this; exact h
  | succ j ih =>
    by_cases he : i = j + 1
    · subst he; exact h
    · rw [mayUpTo, ih (by omega)]
      rfl
theorem may_stop {l : List Nd} {i : Nat} {st : List Nat} (h : mayUpTo l i = some st) (hi : i < l.length) (hs : mayStep l st i = none) : mayL l = false := by
  have h1 : mayUpTo l (i + 1) = none := by rw [mayUpTo, h]; exact hs
  have h2 := upTo_none l (i + 1) h1 l.length (by omega)
  unfold mayL
  rw [h2]
theorem may_end {l : List Nd} {st : List Nat} (h : mayUpTo l l.length = some st) : mayL l = decide (st.length = 1) := by
  unfold mayL
  rw [h]
theorem may_go {l : List Nd} {i : Nat} {st st' : List Nat} (h : mayUpTo l i = some st) (hs : mayStep l st i = some st') : mayUpTo l (i + 1) = some st' := by
  rw [mayUpTo, h]; exact hs
theorem upTo_lt (l : List Nd) : ∀ (i : Nat) (st : List Nat), mayUpTo l i = some st → (∀ x ∈ st, x < i) ∧ st.length ≤ i := by
  intro i
  induction i with
  | zero => intro st h; cases h; simp
  | succ i ih =>
    intro st h
    rw [mayUpTo] at h
    obtain ⟨s0, h1, h2⟩ := Option.bind_eq_some_iff.1 h
    obtain ⟨a, b⟩ := ih s0 h1
    unfold mayStep at h2
    split at h2
    · cases h2
    · split at h2
      · cases h2
        refine ⟨fun x hx => ?_, ?_⟩
        · rcases List.mem_append.1 hx with hx | hx
          · have := a x (List.mem_of_mem_take hx); omega
          · rw [List.mem_singleton.1 hx]; omega
        · simp only [List.length_append, List.length_take, List.length_singleton]
          omega
      · cases h2
theorem okKids_at {l : List Nd} {n : Nd} : ∀ (ks : List Int) (ts : List Nat), ks.length = ts.length → (okKids l n ks ts = true ↔ ∀ (j : Nat) (k : Int) (t : Nat), ks[j]? = some k → ts[j]? = some t → okKid l n k t = true)
  | [], [], _ => by simp [okKids]
  | k :: ks, t :: ts, h => by
    have ih := okKids_at (l := l) (n := n) ks ts (by simpa using h)
    simp only [okKids, Bool.and_eq_true, ih]
    constructor
    · rintro ⟨h1, h2⟩ j x y hx hy
      cases j with
      | zero => simp only [List.getElem?_cons_zero, Option.some.injEq] at hx hy; subst hx; subst hy; exact h1
      | succ j => exact h2 j x y (by simpa using hx) (by simpa using hy)
    · intro h1
      exact ⟨h1 0 k t rfl rfl, fun j x y hx hy => h1 (j + 1) x y (by simpa using hx) (by simpa using hy)⟩
  | [], _ :: _, h => by simp at h
  | _ :: _, [], h => by simp at h
theorem okKids_bad {l : List Nd} {n : Nd} {ks : List Int} {ts : List Nat} (j : Nat) {k : Int} {t : Nat} (h1 : ks[j]? = some k) (h2 : ts[j]? = some t) (h : okKid l n k t = false) : okKids l n ks ts = false := by
  rcases hb : okKids l n ks ts
  · rfl
  · by_cases hl : ks.length = ts.length
    · have := (okKids_at ks ts hl).1 hb j k t h1 h2
      rw [h] at this
      cases this
    · exfalso
      clear h1 h2 h
      revert hb hl
      induction ks generalizing ts with
      | nil => cases ts with
        | nil => simp
        | cons t ts => simp [okKids]
      | cons k ks ih => cases ts with
        | nil => simp [okKids]
        | cons t ts =>
          simp only [okKids, Bool.and_eq_true, List.length_cons]
          intro hb hl
          exact ih hb.2 (by omega)
end Go.Proofs.YthcbgneoonekkaaGreatDoor.Tree

/- What is told of lists of nodes, as plain functions. By an AI agent. -/
namespace Go.Proofs.YthcbgneoonekkaaGreatDoor.Tree
open Go.RowKit


/-! ### a list that may be: its kids stand ahead -/
theorem may_all {l : List Nd} (h : mayL l = true) : ∃ st, mayUpTo l l.length = some st ∧ st.length = 1 := by
  unfold mayL at h
  cases hs : mayUpTo l l.length with
  | none => rw [hs] at h; cases h
  | some st => rw [hs] at h; exact ⟨st, rfl, of_decide_eq_true h⟩
theorem upTo_some {l : List Nd} {i : Nat} (h : (mayUpTo l l.length).isSome = true) (hi : i ≤ l.length) : ∃ st, mayUpTo l i = some st := by
  cases hs : mayUpTo l i with
  | some st => exact ⟨st, rfl⟩
  | none =>
    rw [upTo_none l i hs l.length hi] at h
    cases h
theorem may_ne {l : List Nd} (h : mayL l = true) : 0 < l.length := by
  obtain ⟨st, h1, h2⟩ := may_all h
  have := (upTo_lt l l.length st h1).2
  omega
/-- What a step asks of a node. -/
theorem may_node {l : List Nd} (h : mayL l = true) {i : Nat} {n : Nd} (hi : l[i]? = some n) :
    ∃ st, mayUpTo l i = some st ∧ okShape n st.length = true ∧ okSpan n = true ∧ okKids l n n.kids (st.drop (st.length - n.kids.length)) = true := by
  obtain ⟨s, h1, -⟩ := may_all h
  have hlt : i < l.length := (List.getElem?_eq_some_iff.1 hi).1
  obtain ⟨st, hst⟩ := upTo_some (l := l) (i := i) (by rw [h1]; rfl) (Nat.le_of_lt hlt)
  obtain ⟨st', hst'⟩ := upTo_some (l := l) (i := i + 1) (by rw [h1]; rfl) hlt
  rw [mayUpTo, hst] at hst'
  have hs : mayStep l st i = some st' := hst'
  unfold mayStep at hs
  rw [hi] at hs
  simp only at hs
  split at hs
  · rename_i hc; exact ⟨st, hst, hc⟩
  · cases hs
theorem shape_parts {n : Nd} {k : Nat} (h : okShape n k = true) : 0 ≤ arity n.kind ∧ (n.kids.length : Int) = arity n.kind ∧ n.kids.length ≤ k ∧ (n.kind = 3 → Lex.nameS n.name.data.toList = true) ∧ (n.kind ≠ 3 → n.name.data.toList = []) := by
  unfold okShape at h
  simp only [Bool.and_eq_true, Bool.or_eq_true, decide_eq_true_eq] at h
  obtain ⟨h1, h2, h3, h4, h5⟩ := h
  refine ⟨h1, h2, by omega, fun h3 => h4.resolve_left (fun x => x h3), fun h3 => h5.resolve_left h3⟩
/-- The kids of a node of a list that may be stand ahead of it. -/
theorem may_kids {l : List Nd} (h : mayL l = true) {i : Nat} {n : Nd} (hi : l[i]? = some n) : ∀ k ∈ n.kids, 0 ≤ k ∧ k < (i : Int) := by
  obtain ⟨st, h1, h2, h3, h4⟩ := may_node h hi
  have hlt := (upTo_lt l i st h1).1
  have hk := (shape_parts h2).2.2.1
  intro k hm
  obtain ⟨j, hj, rfl⟩ := List.getElem_of_mem hm
  have hl : n.kids.length = (st.drop (st.length - n.kids.length)).length := by rw [List.length_drop]; omega
  have hj2 : j < (st.drop (st.length - n.kids.length)).length := by omega
  have := (okKids_at _ _ hl).1 h4 j _ _ (List.getElem?_eq_getElem hj) (List.getElem?_eq_getElem hj2)
  unfold okKid at this
  simp only [Bool.and_eq_true, decide_eq_true_eq] at this
  have h5 := hlt _ (List.mem_of_mem_drop (List.getElem_mem hj2))
  rw [this.1]
  omega
theorem may_arity {l : List Nd} (h : mayL l = true) {i : Nat} {n : Nd} (hi : l[i]? = some n) : n.kids.length ≤ 2 := by
  obtain ⟨st, h1, h2, -, -⟩ := may_node h hi
  obtain ⟨-, h3, -⟩ := shape_parts h2
  unfold arity at h3
  split at h3
  · omega
  · split at h3
    · omega
    · split at h3 <;> omega

theorem kid_nat {l : List Nd} (h : mayL l = true) {i : Nat} {n : Nd} (hi : l[i]? = some n) {j : Nat} (hj : j < n.kids.length) : ∃ t : Nat, n.kids[j]?.getD 0 = (t : Int) ∧ t < i ∧ n.kids.take (j + 1) = n.kids.take j ++ [(t : Int)] := by
  have := may_kids h hi n.kids[j] (List.getElem_mem hj)
  obtain ⟨t, ht⟩ := Int.eq_ofNat_of_zero_le this.1
  refine ⟨t, by rw [List.getElem?_eq_getElem hj]; exact ht, by omega, ?_⟩
  rw [List.take_succ_eq_append_getElem hj, ht]

/-! ### the functions -/
def lastKind (l : List Nd) : Int := (l.getLast?.map (·.kind)).getD 0
def formL (l : List Nd) : Bool := mayL l && formKind (lastKind l)
def regL (l : List Nd) : Bool := mayL l && !formKind (lastKind l)
def sweet (k : Int) : Bool := decide (k = 7) || decide (8 ≤ k ∧ k ≤ 15)
def plainL (l : List Nd) : Bool := (l.all fun n => !sweet n.kind) && mayL l
def sameL (a b : List Nd) : Bool := mayL a && (mayL b && decide (a = b))
/-- The depths of the nodes, one by one. -/
def deep (ds : List Int) (ks : List Int) : Int := ks.foldl (fun m k => max m (ds[k.toNat]?.getD 0)) 0
def depths (l : List Nd) : List Int := l.foldl (fun ds n => ds ++ [deep ds n.kids + 1]) []
def depthL (l : List Nd) : Int := if mayL l = true then (depths l).getLast?.getD 0 else 0
/-- Where what is below a node begins. -/
def startF (l : List Nd) : Nat → Nat → Nat
  | 0, i => i
  | f + 1, i => match l[i]? with
    | none => i
    | some n => match n.kids with
      | [] => i
      | k :: _ => startF l f k.toNat
def startL (l : List Nd) (i : Nat) : Nat := startF l (i + 1) i
def shiftNd (d : Int) (n : Nd) : Nd := { n with kids := n.kids.map (· + d) }
def partL (l : List Nd) (i : Int) : List Nd :=
  if mayL l = true ∧ 0 ≤ i ∧ i < l.length then ((l.take (i.toNat + 1)).drop (startL l i.toNat)).map (shiftNd (-(startL l i.toNat : Int))) else []
def nameNext (out : List (List UInt8)) (n : Nd) : List (List UInt8) := if n.kind = 3 ∧ n.name.data.toList ∉ out then out ++ [n.name.data.toList] else out
def propNames (l : List Nd) : List (List UInt8) := l.foldl nameNext []
def namesL (l : List Nd) : List (List UInt8) := if mayL l = true then (propNames l).mergeSort (fun x y => decide (x ≤ y)) else []
def overL (n : Nd) (a b : List Nd) : List Nd :=
  a ++ b.map (shiftNd a.length) ++ [{ n with kids := (if a = [] then [] else [(a.length : Int) - 1]) ++ (if b = [] then [] else [(a.length : Int) + b.length - 1]) }]
def joinL (n : Nd) (kids : List (List Nd)) : List Nd :=
  if arity n.kind = kids.length ∧ (kids.all mayL) = true then
    (if mayL (overL n (kids.headD []) (kids.tail.getLastD [])) = true then overL n (kids.headD []) (kids.tail.getLastD []) else [])
  else []
theorem depths_snoc (l : List Nd) (n : Nd) : depths (l ++ [n]) = depths l ++ [deep (depths l) n.kids + 1] := by
  unfold depths; rw [List.foldl_append]; rfl
theorem depths_len (l : List Nd) : (depths l).length = l.length := by
  have key : ∀ (l : List Nd) (ds : List Int), (l.foldl (fun ds n => ds ++ [deep ds n.kids + 1]) ds).length = ds.length + l.length := by
    intro l
    induction l with
    | nil => intro ds; rfl
    | cons n l ih =>
      intro ds
      rw [List.foldl_cons, ih, List.length_append, List.length_cons, List.length_nil, List.length_cons]
      omega
  have := key l []
  simpa [depths] using this
end Go.Proofs.YthcbgneoonekkaaGreatDoor.Tree

namespace Go.Proofs.YthcbgneoonekkaaGreatDoor.Tree
open Go.RowKit Go.Proofs.YthcbgneoonekkaaGreatDoor.Ints

def zints (st : List Nat) : List Int := st.map fun x : Nat => (x : Int)
theorem zints_get (st : List Nat) (j : Nat) (t : Nat) (h : st[j]? = some t) : (zints st)[j]?.getD 0 = (t : Int) := by
  unfold zints
  rw [List.getElem?_map, h]; rfl
theorem zints_wf (st : List Nat) (n : Nat) (hn : n ≤ 1048576) (h : ∀ x ∈ st, x < n) : ∀ z ∈ zints st, (Lit.int .i64 z).wf = true := by
  intro z hz
  obtain ⟨x, hx, rfl⟩ := List.mem_map.1 hz
  have := h x hx
  exact WalkArith.wf_i64 (by omega)
theorem step_none {l : List Nd} {st : List Nat} {k : Nat} {nd : Nd} (hk : l[k]? = some nd) (h : okShape nd st.length = false ∨ okSpan nd = false ∨ okKids l nd nd.kids (st.drop (st.length - nd.kids.length)) = false) : mayStep l st k = none := by
  unfold mayStep
  rw [hk]
  simp only
  rw [if_neg]
  rintro ⟨h1, h2, h3⟩
  rcases h with h | h | h
  · rw [h] at h1; cases h1
  · rw [h] at h2; cases h2
  · rw [h] at h3; cases h3
theorem step_some {l : List Nd} {st : List Nat} {k : Nat} {nd : Nd} (hk : l[k]? = some nd) (h1 : okShape nd st.length = true) (h2 : okSpan nd = true) (h3 : okKids l nd nd.kids (st.drop (st.length - nd.kids.length)) = true) :
    mayStep l st k = some (st.take (st.length - nd.kids.length) ++ [k]) := by
  unfold mayStep
  rw [hk]
  simp only
  rw [if_pos ⟨h1, h2, h3⟩]
theorem shape_bad1 {n : Nd} {k : Nat} (h : arity n.kind < 0) : okShape n k = false := by
  unfold okShape; rw [decide_eq_false (by omega)]; rfl
theorem shape_bad2 {n : Nd} {k : Nat} (h : ¬ (n.kids.length : Int) = arity n.kind) : okShape n k = false := by
  unfold okShape; rw [decide_eq_false h]; simp
theorem shape_bad3 {n : Nd} {k : Nat} (h : ¬ arity n.kind ≤ k) : okShape n k = false := by
  unfold okShape; rw [decide_eq_false h]; simp
theorem shape_bad4 {n : Nd} {k : Nat} (h : n.kind = 3) (h2 : Lex.nameS n.name.data.toList = false) : okShape n k = false := by
  unfold okShape; rw [decide_eq_false (show ¬ n.kind ≠ 3 from fun x => x h), h2]; simp
theorem shape_bad5 {n : Nd} {k : Nat} (h : n.kind ≠ 3) (h2 : n.name.data.toList ≠ []) : okShape n k = false := by
  unfold okShape; rw [decide_eq_false h, decide_eq_false h2]; simp
theorem shape_ok {n : Nd} {k : Nat} (h1 : 0 ≤ arity n.kind) (h2 : (n.kids.length : Int) = arity n.kind) (h3 : arity n.kind ≤ k) (h4 : (n.kind = 3 ∧ Lex.nameS n.name.data.toList = true) ∨ (n.kind ≠ 3 ∧ n.name.data.toList = [])) : okShape n k = true := by
  unfold okShape
  rw [decide_eq_true h1, decide_eq_true h2, decide_eq_true h3]
  rcases h4 with ⟨h4, h5⟩ | ⟨h4, h5⟩
  · rw [h5, decide_eq_true h4]; simp
  · rw [decide_eq_true h4, decide_eq_true h5]; simp
theorem span_ok1 {n : Nd} (h : timed n.kind = true) (h2 : Ival.mayS n.lo n.hi = true) : okSpan n = true := by unfold okSpan; rw [if_pos h, h2]
theorem span_bad1 {n : Nd} (h : timed n.kind = true) (h2 : Ival.mayS n.lo n.hi = false) : okSpan n = false := by unfold okSpan; rw [if_pos h, h2]
theorem span_ok2 {n : Nd} (h : timed n.kind = false) (h2 : n.lo = 0 ∧ n.hi = 0) : okSpan n = true := by unfold okSpan; rw [if_neg (by rw [h]; decide), decide_eq_true h2]
theorem span_bad2 {n : Nd} (h : timed n.kind = false) (h2 : ¬ (n.lo = 0 ∧ n.hi = 0)) : okSpan n = false := by unfold okSpan; rw [if_neg (by rw [h]; decide), decide_eq_false h2]
theorem okKid_yes {l : List Nd} {n x : Nd} {k : Int} {t : Nat} (hx : l[t]? = some x) (h1 : k = (t : Int)) (h2 : fits n.kind x.kind = true) : okKid l n k t = true := by
  unfold okKid; rw [hx, decide_eq_true h1]; simpa using h2
theorem okKid_no1 {l : List Nd} {n : Nd} {k : Int} {t : Nat} (h1 : k ≠ (t : Int)) : okKid l n k t = false := by
  unfold okKid; rw [decide_eq_false h1]; rfl
theorem okKid_no2 {l : List Nd} {n x : Nd} {k : Int} {t : Nat} (hx : l[t]? = some x) (h2 : fits n.kind x.kind = false) : okKid l n k t = false := by
  unfold okKid; rw [hx]; simp [h2]
theorem okKids_upto {l : List Nd} {n : Nd} {ks : List Int} {ts : List Nat} (hl : ks.length = ts.length) (h : ∀ j, j < ks.length → ∀ k t, ks[j]? = some k → ts[j]? = some t → okKid l n k t = true) : okKids l n ks ts = true :=
  (okKids_at ks ts hl).2 fun j k t h1 h2 => h j (List.getElem?_eq_some_iff.1 h1).1 k t h1 h2

theorem zints_drop (st : List Nat) (j k : Nat) (t : Nat) (h : (st.drop k)[j]? = some t) : ((zints st).drop k)[j]?.getD 0 = (t : Int) := by
  unfold zints
  rw [← List.map_drop, List.getElem?_map, h]; rfl
theorem zints_next (st : List Nat) (j k : Nat) : ([] ++ (zints st).take j) ++ [(k : Int)] = zints (st.take j ++ [k]) := by
  unfold zints
  rw [List.nil_append, List.map_append, List.map_take]; rfl
/-- What a round of the kids' loop reads. -/
theorem kid_facts {l : List Nd} {n k m b off : Nat} {nd : Nd} {st : List Nat} {w : World} (hl : l.length = n) (hst : ∀ x ∈ st, x < k) (hk : k < n) (hm : m ≤ st.length) (hkids : nd.kids.length = m)
    (hn : ∀ (j : Nat) (x : Nd), l[j]? = some x → NodeAt Any w b (off + 5 * j) x) : ∀ j, j < m → ∃ (kj : Int) (tj : Nat) (x : Nd), nd.kids[j]? = some kj ∧ (st.drop (st.length - m))[j]? = some tj ∧
      nd.kids[j]?.getD 0 = kj ∧ ((zints st).drop (st.length - m))[j]?.getD 0 = (tj : Int) ∧ tj < n ∧ l[tj]? = some x ∧ w.cell? ⟨b, off + tj * 5, none⟩ = some (.int .i64 x.kind) := by
  intro j hj
  have h1 : j < nd.kids.length := by omega
  have h2 : j < (st.drop (st.length - m)).length := by rw [List.length_drop]; omega
  have e2 := List.getElem?_eq_getElem h2
  have h3 := hst _ (List.mem_of_mem_drop (List.getElem_mem h2))
  have h4 : (st.drop (st.length - m))[j] < l.length := by omega
  refine ⟨nd.kids[j], (st.drop (st.length - m))[j], l[(st.drop (st.length - m))[j]], List.getElem?_eq_getElem h1, e2, by rw [List.getElem?_eq_getElem h1]; rfl, zints_drop st j _ _ e2, by omega, List.getElem?_eq_getElem h4, ?_⟩
  have := (hn _ _ (List.getElem?_eq_getElem h4)).1
  rwa [Nat.mul_comm] at this

theorem own_next {w : World} {base : Nat} {e : TypeId} {v : Value} {st : List Nat} {m k : Nat} (h : w.ownsRow base e 1 v (0 + (st.length - m) + 1) (((([] : List Int) ++ (zints st).take (st.length - m)) ++ [(k : Int)]).map (Value.int .i64))) :
    w.ownsRow base e 1 v (st.take (st.length - m) ++ [k]).length ((zints (st.take (st.length - m) ++ [k])).map (Value.int .i64)) := by
  rw [zints_next] at h
  have e : (st.take (st.length - m) ++ [k]).length = 0 + (st.length - m) + 1 := by
    rw [List.length_append, List.length_take, List.length_singleton]; omega
  rw [e]; exact h
theorem may_below {B : Nat} {a w w1 w2 : World} {o1 o2 : Obj} {r1 r2 : Option Nat} (h : Below B a w) (hb : B ≤ w.heap.size) (h1 : (w.alloc o1).grownBy w1 r1) (h2 : (w1.alloc o2).grownBy w2 r2) (k1 : ∀ q, r1 = some q → B ≤ q) (k2 : ∀ q, r2 = some q → B ≤ q) : Below B a w2 := by
  have b1 := (h.alloc hb o1).grown h1 (le_alloc hb) k1
  have hs : B ≤ w1.heap.size := Nat.le_trans (le_alloc hb) h1.size
  exact (b1.alloc hs o2).grown h2 (le_alloc hs) k2

theorem infoInt : (Tryz.prog.info? 3).map (fun i => (i.zero, i.size, i.bytes)) = some (some (.int .i64 0), 1, 8) := by kernel_rfl
theorem sizeElemInts : (Tryz.prog.info? (Tryz.prog.elem 32)).map (·.size) = some 1 := by kernel_rfl
theorem typeInts : Tryz.prog.underlying 32 = some (.slice (Tryz.prog.elem 32)) := by kernel_rfl

end Go.Proofs.YthcbgneoonekkaaGreatDoor.Tree

/- What the landed program asks of a list of nodes, as plain functions; it is what may be. By an AI agent. -/
namespace Go.Proofs.YthcbgneoonekkaaGreatDoor.Tree
open Go.RowKit

/-- As many kids as a kind takes: one, where it is none. -/
def kidc (k : Int) : Nat := if k ∈ none0 then 0 else if k ∈ twos then 2 else 1
def regKind (k : Int) : Bool := decide (18 ≤ k ∧ k ≤ 22)
def takesReg (k : Int) : Bool := decide (k ∈ regs)
def nameOkB (n : Nd) : Bool := if n.kind = 3 then Lex.nameS n.name.data.toList else decide (n.name.data.toList = [])
def fieldsB (n : Nd) : Bool := (formKind n.kind || regKind n.kind) && (nameOkB n && okSpan n)
def kindAt (l : List Nd) (k : Int) : Int := (l[k.toNat]?.map (·.kind)).getD 0
def kidsB (l : List Nd) (n : Nd) : Bool := n.kids.all fun k => regKind (kindAt l k) == takesReg n.kind
def landStep (l : List Nd) (st : List Nat) (i : Nat) (n : Nd) : Option (List Nat) :=
  if kidc n.kind ≤ st.length ∧ n.kids = (zints st).drop (st.length - kidc n.kind) ∧ fieldsB n = true ∧ kidsB l n = true then some (st.take (st.length - kidc n.kind) ++ [i]) else none

theorem kidc_arity {k : Int} (h : 1 ≤ k ∧ k ≤ 22) : arity k = (kidc k : Int) := by
  unfold arity kidc
  by_cases h1 : k ∈ none0
  · rw [if_pos h1, if_pos h1]; rfl
  · rw [if_neg h1, if_neg h1]
    by_cases h2 : k ∈ twos
    · rw [if_pos h2, if_pos h2]; rfl
    · rw [if_neg h2, if_neg h2, if_neg (by omega)]; rfl
theorem arity_range {k : Int} (h : 0 ≤ arity k) : 1 ≤ k ∧ k ≤ 22 := by
  unfold arity at h
  by_cases h1 : k ∈ none0
  · simp only [none0, List.mem_cons, List.not_mem_nil, or_false] at h1; omega
  · rw [if_neg h1] at h
    by_cases h2 : k ∈ twos
    · simp only [twos, List.mem_cons, List.not_mem_nil, or_false] at h2; omega
    · rw [if_neg h2] at h
      by_cases h3 : k < 1 ∨ 22 < k
      · rw [if_pos h3] at h; omega
      · omega
theorem kinds_range (k : Int) : (formKind k || regKind k) = true ↔ 1 ≤ k ∧ k ≤ 22 := by
  unfold formKind regKind
  simp only [Bool.or_eq_true, decide_eq_true_eq]
  omega
/-- The kinds of the nodes that were taken. -/
theorem upTo_kinds {l : List Nd} : ∀ (i : Nat) (st : List Nat), mayUpTo l i = some st → ∀ (j : Nat) (x : Nd), j < i → l[j]? = some x → 1 ≤ x.kind ∧ x.kind ≤ 22 := by
  intro i
  induction i with
  | zero => intro st _ j x hj; omega
  | succ i ih =>
    intro st h j x hj hx
    rw [mayUpTo] at h
    obtain ⟨s0, h1, h2⟩ := Option.bind_eq_some_iff.1 h
    by_cases e : j = i
    · subst e
      unfold mayStep at h2
      rw [hx] at h2
      simp only at h2
      split at h2
      · rename_i hc
        exact arity_range (shape_parts hc.1).1
      · cases h2
    · exact ih s0 h1 j x (by omega) hx
theorem fits_reg {k c : Int} (h : 1 ≤ c ∧ c ≤ 22) : fits k c = (regKind c == takesReg k) := by
  unfold fits takesReg regKind formKind
  by_cases h1 : k ∈ regs
  · rw [if_pos h1, decide_eq_true h1]
    by_cases h2 : c ≤ 17
    · rw [decide_eq_true (by omega), decide_eq_false (by omega)]; rfl
    · rw [decide_eq_false (by omega), decide_eq_true (by omega)]; rfl
  · rw [if_neg h1, decide_eq_false h1]
    by_cases h2 : c ≤ 17
    · rw [decide_eq_true (by omega), decide_eq_false (by omega)]; rfl
    · rw [decide_eq_false (by omega), decide_eq_true (by omega)]; rfl
/-- The kids of a node against the last open ones. -/
theorem okKids_iff {l : List Nd} {n : Nd} {ks : List Int} {ts : List Nat} (ht : ∀ t ∈ ts, ∃ x, l[t]? = some x ∧ 1 ≤ x.kind ∧ x.kind ≤ 22) :
    okKids l n ks ts = true ↔ ks = zints ts ∧ (ks.all fun k => regKind (kindAt l k) == takesReg n.kind) = true := by
  induction ks generalizing ts with
  | nil =>
    cases ts with
    | nil => simp [okKids, zints]
    | cons t ts => simp [okKids, zints]
  | cons k ks ih =>
    cases ts with
    | nil => simp [okKids, zints]
    | cons t ts =>
      obtain ⟨x, hx, hk⟩ := ht t List.mem_cons_self
      have hkid : okKid l n k t = true ↔ k = (t : Int) ∧ (regKind (kindAt l (t : Int)) == takesReg n.kind) = true := by
        unfold okKid kindAt
        rw [Int.toNat_natCast, hx, Option.map_some, Option.getD_some, fits_reg hk, Bool.and_eq_true, decide_eq_true_eq]
      have ih' := ih (ts := ts) fun t' ht' => ht t' (List.mem_cons_of_mem _ ht')
      simp only [okKids, Bool.and_eq_true, hkid, ih', zints, List.map_cons, List.cons.injEq, List.all_cons]
      constructor
      · rintro ⟨⟨rfl, h1⟩, h2, h3⟩; exact ⟨⟨rfl, h2⟩, h1, h3⟩
      · rintro ⟨⟨rfl, h2⟩, h1, h3⟩; exact ⟨⟨rfl, h1⟩, h2, h3⟩
theorem land_step {l : List Nd} {st : List Nat} {i : Nat} {n : Nd} (hu : mayUpTo l i = some st) (hi : l[i]? = some n) : mayStep l st i = landStep l st i n := by
  have hlt := (upTo_lt l i st hu).1
  have hkinds := upTo_kinds i st hu
  have hin : i < l.length := (List.getElem?_eq_some_iff.1 hi).1
  have hts : ∀ k, ∀ t ∈ st.drop k, ∃ x, l[t]? = some x ∧ 1 ≤ x.kind ∧ x.kind ≤ 22 := fun k t ht => by
    have h1 := hlt t (List.mem_of_mem_drop ht)
    have h2 : t < l.length := by omega
    exact ⟨l[t], List.getElem?_eq_getElem h2, hkinds t _ h1 (List.getElem?_eq_getElem h2)⟩
  unfold landStep
  by_cases h : kidc n.kind ≤ st.length ∧ n.kids = (zints st).drop (st.length - kidc n.kind) ∧ fieldsB n = true ∧ kidsB l n = true
  · rw [if_pos h]
    obtain ⟨h1, h2, h3, h4⟩ := h
    unfold fieldsB at h3
    rw [Bool.and_eq_true, Bool.and_eq_true, kinds_range] at h3
    obtain ⟨h5, h6, h7⟩ := h3
    have ha := kidc_arity h5
    have hkl : n.kids.length = kidc n.kind := by rw [h2, List.length_drop, zints, List.length_map]; omega
    have hsh : okShape n st.length = true := by
      refine shape_ok (by omega) (by rw [ha, hkl]) (by omega) ?_
      unfold nameOkB at h6
      by_cases h8 : n.kind = 3
      · rw [if_pos h8] at h6; exact Or.inl ⟨h8, h6⟩
      · rw [if_neg h8] at h6; exact Or.inr ⟨h8, of_decide_eq_true h6⟩
    have hz : (zints st).drop (st.length - kidc n.kind) = zints (st.drop (st.length - kidc n.kind)) := by unfold zints; rw [List.map_drop]
    have := step_some hi hsh h7 (by rw [hkl]; exact (okKids_iff (hts _)).2 ⟨by rw [h2, hz], h4⟩)
    rw [this, hkl]
  · rw [if_neg h]
    unfold mayStep
    rw [hi]
    simp only
    rw [if_neg]
    rintro ⟨h1, h2, h3⟩
    obtain ⟨a1, a2, a3, a4, a5⟩ := shape_parts h1
    have hr := arity_range a1
    have ha := kidc_arity hr
    have hkl : n.kids.length = kidc n.kind := by omega
    rw [hkl] at h3
    obtain ⟨b1, b2⟩ := (okKids_iff (hts _)).1 h3
    refine h ⟨by omega, by rw [b1]; unfold zints; rw [List.map_drop], ?_, b2⟩
    unfold fieldsB
    rw [(kinds_range _).2 hr, h2, Bool.true_and, Bool.and_true]
    unfold nameOkB
    by_cases h8 : n.kind = 3
    · rw [if_pos h8]; exact a4 h8
    · rw [if_neg h8]; exact decide_eq_true (a5 h8)
/-- A round that ends it. -/
theorem land_stop {l : List Nd} {st : List Nat} {i : Nat} {n : Nd} (hu : mayUpTo l i = some st) (hi : l[i]? = some n) (h : ¬ (kidc n.kind ≤ st.length ∧ n.kids = (zints st).drop (st.length - kidc n.kind) ∧ fieldsB n = true ∧ kidsB l n = true)) : mayL l = false :=
  may_stop hu (List.getElem?_eq_some_iff.1 hi).1 (by rw [land_step hu hi]; unfold landStep; rw [if_neg h])
theorem land_go {l : List Nd} {st : List Nat} {i : Nat} {n : Nd} (hu : mayUpTo l i = some st) (hi : l[i]? = some n) (h : kidc n.kind ≤ st.length ∧ n.kids = (zints st).drop (st.length - kidc n.kind) ∧ fieldsB n = true ∧ kidsB l n = true) : mayUpTo l (i + 1) = some (st.take (st.length - kidc n.kind) ++ [i]) :=
  may_go hu (by rw [land_step hu hi]; unfold landStep; rw [if_pos h])
end Go.Proofs.YthcbgneoonekkaaGreatDoor.Tree
