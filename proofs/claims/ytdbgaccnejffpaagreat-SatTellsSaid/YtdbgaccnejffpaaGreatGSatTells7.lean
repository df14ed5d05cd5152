/-
  Kinds of nodes in plain arithmetic, and the reference's small functions on them. Lists of nodes that may be, as a run over the nodes with the open ones. What is told of lists of nodes, as plain functions.
    Made of several texts by wip/tools/mergetpl.py. By an AI agent.
  The walk of the reference's May. By an AI agent.
  What calls leave that hand back nodes; kids moved. By an AI agent.
  The part of TreeBase that speaks of functions which not every seat has. By an AI agent.
-/
import Derived.Test.YtdbgaccnejffpaaGreatGSatTells6
import Derived.Test.YtdbgaccnejffpaaGreatChecked
import Derived.WalkKit
import Derived.WalkSpells
import Derived.Below
import Derived.Lib.Hide
import Derived.Test.YtdbgaccnejffpaaGreatGSatTells1
import Derived.Deep.Slices
import Derived.Deep.Fields
import Derived.ChangeSame
import Derived.ChangeArms
import Derived.ChangeSlices
import Derived.Laws.StructEq
import Derived.IntWalk
import Derived.Deep.QuietTactic
import Derived.BigQuiet
import Derived.Test.YtdbgaccnejffpaaGreatGSatTells3
import Derived.OwnWalk
import Derived.Deep.RegionHeld
/- Kinds of nodes in plain arithmetic, and the reference's small functions on them. By an AI agent. -/
namespace Go.Proofs.YtdbgaccnejffpaaGreat.Tree
open Go.RowKit
def none0 : List Int := [1, 2, 3, 18]
def twos : List Int := [5, 6, 7, 14, 15, 20, 21]
def arity (k : Int) : Int := if k ∈ none0 then 0 else if k ∈ twos then 2 else if k < 1 ∨ 22 < k then -1 else 1
def formKind (k : Int) : Bool := decide (1 ≤ k ∧ k ≤ 17)
def timed (k : Int) : Bool := decide (8 ≤ k ∧ k ≤ 17)
def regs : List Int := [16, 17, 20, 21, 22]
def fits (k c : Int) : Bool := if k ∈ regs then !(formKind c) else formKind c
theorem arity_ways (k : Int) : (k = 1 ∨ k = 2 ∨ k = 3 ∨ k = 18) ∨ (k = 5 ∨ k = 6 ∨ k = 7 ∨ k = 14 ∨ k = 15 ∨ k = 20 ∨ k = 21) ∨
  ((k == 1) = false ∧ (k == 2) = false ∧ (k == 3) = false ∧ (k == 18) = false ∧ (k == 5) = false ∧ (k == 6) = false ∧ (k == 7) = false ∧ (k == 14) = false ∧ (k == 15) = false ∧ (k == 20) = false ∧ (k == 21) = false ∧
   arity k = if k < 1 ∨ 22 < k then -1 else 1) := by
 by_cases h1 : k = 1 ∨ k = 2 ∨ k = 3 ∨ k = 18
 ·exact Or.inl h1
 ·by_cases h2 : k = 5 ∨ k = 6 ∨ k = 7 ∨ k = 14 ∨ k = 15 ∨ k = 20 ∨ k = 21
  ·exact Or.inr (Or.inl h2)
  ·refine Or.inr (Or.inr ?_)
   simp only [beq_eq_false_iff_ne]
   refine ⟨by omega, by omega, by omega, by omega, by omega, by omega, by omega, by omega, by omega, by omega, by omega, ?_⟩
   unfold arity
   rw [if_neg (by simp only [none0, List.mem_cons, List.not_mem_nil, or_false]; exact h1), if_neg (by simp only [twos, List.mem_cons, List.not_mem_nil, or_false]; exact h2)]
end Go.Proofs.YtdbgaccnejffpaaGreat.Tree
/- Lists of nodes that may be, as a run over the nodes with the open ones. By an AI agent. -/
namespace Go.Proofs.YtdbgaccnejffpaaGreat.Tree
open Go.RowKit
def okShape (n : Nd) (have_ : Nat) : Bool :=
 decide (0 ≤ arity n.kind) && (decide ((n.kids.length : Int) = arity n.kind) && (decide (arity n.kind ≤ have_) && ((decide (n.kind ≠ 3) || Lex.nameS n.name.data.toList) && (decide (n.kind = 3) || decide (n.name.data.toList = [])))))
def okSpan (n : Nd) : Bool := if timed n.kind then Ival.mayS n.lo n.hi else decide (n.lo = 0 ∧ n.hi = 0)
def okKid (l : List Nd) (n : Nd) (k : Int) (t : Nat) : Bool := decide (k = (t : Int)) && fits n.kind ((l[t]?.map (·.kind)).getD 0)
def okKids (l : List Nd) (n : Nd) : List Int → List Nat → Bool
 | k :: ks, t :: ts => okKid l n k t && okKids l n ks ts
 | [], [] => true
 | _, _ => false
def mayStep (l : List Nd) (st : List Nat) (i : Nat) : Option (List Nat) :=
 match l[i]? with
 | none => none
 | some n => if okShape n st.length = true ∧ okSpan n = true ∧ okKids l n n.kids (st.drop (st.length - n.kids.length)) = true then some (st.take (st.length - n.kids.length) ++ [i]) else none
def mayUpTo (l : List Nd) : Nat → Option (List Nat)
 | 0 => some []
 | i + 1 => (mayUpTo l i).bind fun st => mayStep l st i
def mayL (l : List Nd) : Bool :=
 match mayUpTo l l.length with
 | some st => decide (st.length = 1)
 | none => false
theorem upTo_none (l : List Nd) (i : Nat) (h : mayUpTo l i = none) : ∀ j, i ≤ j → mayUpTo l j = none := by
 intro j hj
 induction j with
 | zero =>
  have : i = 0 := by omega
  subst this; exact h
 | succ j ih =>
  by_cases he : i = j + 1
  ·subst he; exact h
  ·rw [mayUpTo, ih (by omega)]
   rfl
theorem may_stop {l : List Nd} {i : Nat} {st : List Nat} (h : mayUpTo l i = some st) (hi : i < l.length) (hs : mayStep l st i = none) : mayL l = false := by
 have h1 : mayUpTo l (i + 1) = none := by rw [mayUpTo, h]; exact hs
 have h2 := upTo_none l (i + 1) h1 l.length (by omega)
 unfold mayL
 rw [h2]
theorem may_end {l : List Nd} {st : List Nat} (h : mayUpTo l l.length = some st) : mayL l = decide (st.length = 1) := by
 unfold mayL
 rw [h]
theorem may_go {l : List Nd} {i : Nat} {st st' : List Nat} (h : mayUpTo l i = some st) (hs : mayStep l st i = some st') : mayUpTo l (i + 1) = some st' := by
 rw [mayUpTo, h]; exact hs
theorem upTo_lt (l : List Nd) : ∀ (i : Nat) (st : List Nat), mayUpTo l i = some st → (∀ x ∈ st, x < i) ∧ st.length ≤ i := by
 intro i
 induction i with
 | zero => intro st h; cases h; simp
 | succ i ih =>
  intro st h
  rw [mayUpTo] at h
  obtain ⟨s0, h1, h2⟩ := Option.bind_eq_some_iff.1 h
  obtain ⟨a, b⟩ := ih s0 h1
  unfold mayStep at h2
  split at h2
  ·cases h2
  ·split at h2
   ·cases h2
    refine ⟨fun x hx => ?_, ?_⟩
    ·rcases List.mem_append.1 hx with hx | hx
     ·have := a x (List.mem_of_mem_take hx); omega
     ·rw [List.mem_singleton.1 hx]; omega
    ·simp only [List.length_append, List.length_take, List.length_singleton]
     omega
   ·cases h2
theorem okKids_at {l : List Nd} {n : Nd} : ∀ (ks : List Int) (ts : List Nat), ks.length = ts.length → (okKids l n ks ts = true ↔ ∀ (j : Nat) (k : Int) (t : Nat), ks[j]? = some k → ts[j]? = some t → okKid l n k t = true)
 | [], [], _ => by simp [okKids]
 | k :: ks, t :: ts, h => by
  have ih := okKids_at (l := l) (n := n) ks ts (by simpa using h)
  simp only [okKids, Bool.and_eq_true, ih]
  constructor
  ·rintro ⟨h1, h2⟩ j x y hx hy
   cases j with
   | zero => simp only [List.getElem?_cons_zero, Option.some.injEq] at hx hy; subst hx; subst hy; exact h1
   | succ j => exact h2 j x y (by simpa using hx) (by simpa using hy)
  ·intro h1
   exact ⟨h1 0 k t rfl rfl, fun j x y hx hy => h1 (j + 1) x y (by simpa using hx) (by simpa using hy)⟩
 | [], _ :: _, h => by simp at h
 | _ :: _, [], h => by simp at h
theorem okKids_bad {l : List Nd} {n : Nd} {ks : List Int} {ts : List Nat} (j : Nat) {k : Int} {t : Nat} (h1 : ks[j]? = some k) (h2 : ts[j]? = some t) (h : okKid l n k t = false) : okKids l n ks ts = false := by
 rcases hb : okKids l n ks ts
 ·rfl
 ·by_cases hl : ks.length = ts.length
  ·have := (okKids_at ks ts hl).1 hb j k t h1 h2
   rw [h] at this
   cases this
  ·exfalso
   clear h1 h2 h
   revert hb hl
   induction ks generalizing ts with
   | nil => cases ts with
    | nil => simp
    | cons t ts => simp [okKids]
   | cons k ks ih => cases ts with
    | nil => simp [okKids]
    | cons t ts =>
     simp only [okKids, Bool.and_eq_true, List.length_cons]
     intro hb hl
     exact ih hb.2 (by omega)
end Go.Proofs.YtdbgaccnejffpaaGreat.Tree
/- What is told of lists of nodes, as plain functions. By an AI agent. -/
namespace Go.Proofs.YtdbgaccnejffpaaGreat.Tree
open Go.RowKit
theorem may_all {l : List Nd} (h : mayL l = true) : ∃ st, mayUpTo l l.length = some st ∧ st.length = 1 := by
 unfold mayL at h
 cases hs : mayUpTo l l.length with
 | none => rw [hs] at h; cases h
 | some st => rw [hs] at h; exact ⟨st, rfl, of_decide_eq_true h⟩
theorem upTo_some {l : List Nd} {i : Nat} (h : (mayUpTo l l.length).isSome = true) (hi : i ≤ l.length) : ∃ st, mayUpTo l i = some st := by
 cases hs : mayUpTo l i with
 | some st => exact ⟨st, rfl⟩
 | none =>
  rw [upTo_none l i hs l.length hi] at h
  cases h
theorem may_ne {l : List Nd} (h : mayL l = true) : 0 < l.length := by
 obtain ⟨st, h1, h2⟩ := may_all h
 have := (upTo_lt l l.length st h1).2
 omega
theorem may_node {l : List Nd} (h : mayL l = true) {i : Nat} {n : Nd} (hi : l[i]? = some n) :
  ∃ st, mayUpTo l i = some st ∧ okShape n st.length = true ∧ okSpan n = true ∧ okKids l n n.kids (st.drop (st.length - n.kids.length)) = true := by
 obtain ⟨s, h1, -⟩ := may_all h
 have hlt : i < l.length := (List.getElem?_eq_some_iff.1 hi).1
 obtain ⟨st, hst⟩ := upTo_some (l := l) (i := i) (by rw [h1]; rfl) (Nat.le_of_lt hlt)
 obtain ⟨st', hst'⟩ := upTo_some (l := l) (i := i + 1) (by rw [h1]; rfl) hlt
 rw [mayUpTo, hst] at hst'
 have hs : mayStep l st i = some st' := hst'
 unfold mayStep at hs
 rw [hi] at hs
 simp only at hs
 split at hs
 ·rename_i hc; exact ⟨st, hst, hc⟩
 ·cases hs
theorem shape_parts {n : Nd} {k : Nat} (h : okShape n k = true) : 0 ≤ arity n.kind ∧ (n.kids.length : Int) = arity n.kind ∧ n.kids.length ≤ k ∧ (n.kind = 3 → Lex.nameS n.name.data.toList = true) ∧ (n.kind ≠ 3 → n.name.data.toList = []) := by
 unfold okShape at h
 simp only [Bool.and_eq_true, Bool.or_eq_true, decide_eq_true_eq] at h
 obtain ⟨h1, h2, h3, h4, h5⟩ := h
 refine ⟨h1, h2, by omega, fun h3 => h4.resolve_left (fun x => x h3), fun h3 => h5.resolve_left h3⟩
theorem may_kids {l : List Nd} (h : mayL l = true) {i : Nat} {n : Nd} (hi : l[i]? = some n) : ∀ k ∈ n.kids, 0 ≤ k ∧ k < (i : Int) := by
 obtain ⟨st, h1, h2, h3, h4⟩ := may_node h hi
 have hlt := (upTo_lt l i st h1).1
 have hk := (shape_parts h2).2.2.1
 intro k hm
 obtain ⟨j, hj, rfl⟩ := List.getElem_of_mem hm
 have hl : n.kids.length = (st.drop (st.length - n.kids.length)).length := by rw [List.length_drop]; omega
 have hj2 : j < (st.drop (st.length - n.kids.length)).length := by omega
 have := (okKids_at _ _ hl).1 h4 j _ _ (List.getElem?_eq_getElem hj) (List.getElem?_eq_getElem hj2)
 unfold okKid at this
 simp only [Bool.and_eq_true, decide_eq_true_eq] at this
 have h5 := hlt _ (List.mem_of_mem_drop (List.getElem_mem hj2))
 rw [this.1]
 omega
theorem may_arity {l : List Nd} (h : mayL l = true) {i : Nat} {n : Nd} (hi : l[i]? = some n) : n.kids.length ≤ 2 := by
 obtain ⟨st, h1, h2, -, -⟩ := may_node h hi
 obtain ⟨-, h3, -⟩ := shape_parts h2
 unfold arity at h3
 split at h3
 ·omega
 ·split at h3
  ·omega
  ·split at h3 <;> omega
theorem kid_nat {l : List Nd} (h : mayL l = true) {i : Nat} {n : Nd} (hi : l[i]? = some n) {j : Nat} (hj : j < n.kids.length) : ∃ t : Nat, n.kids[j]?.getD 0 = (t : Int) ∧ t < i ∧ n.kids.take (j + 1) = n.kids.take j ++ [(t : Int)] := by
 have := may_kids h hi n.kids[j] (List.getElem_mem hj)
 obtain ⟨t, ht⟩ := Int.eq_ofNat_of_zero_le this.1
 refine ⟨t, by rw [List.getElem?_eq_getElem hj]; exact ht, by omega, ?_⟩
 rw [List.take_succ_eq_append_getElem hj, ht]
def lastKind (l : List Nd) : Int := (l.getLast?.map (·.kind)).getD 0
def formL (l : List Nd) : Bool := mayL l && formKind (lastKind l)
def regL (l : List Nd) : Bool := mayL l && !formKind (lastKind l)
def startF (l : List Nd) : Nat → Nat → Nat
 | 0, i => i
 | f + 1, i => match l[i]? with
  | none => i
  | some n => match n.kids with
   | [] => i
   | k :: _ => startF l f k.toNat
def startL (l : List Nd) (i : Nat) : Nat := startF l (i + 1) i
def shiftNd (d : Int) (n : Nd) : Nd := { n with kids := n.kids.map (· + d) }
def partL (l : List Nd) (i : Int) : List Nd :=
 if mayL l = true ∧ 0 ≤ i ∧ i < l.length then ((l.take (i.toNat + 1)).drop (startL l i.toNat)).map (shiftNd (-(startL l i.toNat : Int))) else []
def overL (n : Nd) (a b : List Nd) : List Nd :=
 a ++ b.map (shiftNd a.length) ++ [{ n with kids := (if a = [] then [] else [(a.length : Int) - 1]) ++ (if b = [] then [] else [(a.length : Int) + b.length - 1]) }]
end Go.Proofs.YtdbgaccnejffpaaGreat.Tree

namespace Go.Proofs.YtdbgaccnejffpaaGreat.Tree
open Go.RowKit Go.Proofs.YtdbgaccnejffpaaGreat.Ints
def zints (st : List Nat) : List Int := st.map fun x : Nat => (x : Int)
theorem zints_wf (st : List Nat) (n : Nat) (hn : n ≤ 1048576) (h : ∀ x ∈ st, x < n) : ∀ z ∈ zints st, (Lit.int .i64 z).wf = true := by
 intro z hz
 obtain ⟨x, hx, rfl⟩ := List.mem_map.1 hz
 have := h x hx
 exact WalkArith.wf_i64 (by omega)
theorem step_none {l : List Nd} {st : List Nat} {k : Nat} {nd : Nd} (hk : l[k]? = some nd) (h : okShape nd st.length = false ∨ okSpan nd = false ∨ okKids l nd nd.kids (st.drop (st.length - nd.kids.length)) = false) : mayStep l st k = none := by
 unfold mayStep
 rw [hk]
 simp only
 rw [if_neg]
 rintro ⟨h1, h2, h3⟩
 rcases h with h | h | h
 ·rw [h] at h1; cases h1
 ·rw [h] at h2; cases h2
 ·rw [h] at h3; cases h3
theorem step_some {l : List Nd} {st : List Nat} {k : Nat} {nd : Nd} (hk : l[k]? = some nd) (h1 : okShape nd st.length = true) (h2 : okSpan nd = true) (h3 : okKids l nd nd.kids (st.drop (st.length - nd.kids.length)) = true) :
  mayStep l st k = some (st.take (st.length - nd.kids.length) ++ [k]) := by
 unfold mayStep
 rw [hk]
 simp only
 rw [if_pos ⟨h1, h2, h3⟩]
theorem shape_bad1 {n : Nd} {k : Nat} (h : arity n.kind < 0) : okShape n k = false := by
 unfold okShape; rw [decide_eq_false (by omega)]; rfl
theorem shape_bad2 {n : Nd} {k : Nat} (h : ¬ (n.kids.length : Int) = arity n.kind) : okShape n k = false := by
 unfold okShape; rw [decide_eq_false h]; simp
theorem shape_bad3 {n : Nd} {k : Nat} (h : ¬ arity n.kind ≤ k) : okShape n k = false := by
 unfold okShape; rw [decide_eq_false h]; simp
theorem shape_bad4 {n : Nd} {k : Nat} (h : n.kind = 3) (h2 : Lex.nameS n.name.data.toList = false) : okShape n k = false := by
 unfold okShape; rw [decide_eq_false (show ¬ n.kind ≠ 3 from fun x => x h), h2]; simp
theorem shape_bad5 {n : Nd} {k : Nat} (h : n.kind ≠ 3) (h2 : n.name.data.toList ≠ []) : okShape n k = false := by
 unfold okShape; rw [decide_eq_false h, decide_eq_false h2]; simp
theorem shape_ok {n : Nd} {k : Nat} (h1 : 0 ≤ arity n.kind) (h2 : (n.kids.length : Int) = arity n.kind) (h3 : arity n.kind ≤ k) (h4 : (n.kind = 3 ∧ Lex.nameS n.name.data.toList = true) ∨ (n.kind ≠ 3 ∧ n.name.data.toList = [])) : okShape n k = true := by
 unfold okShape
 rw [decide_eq_true h1, decide_eq_true h2, decide_eq_true h3]
 rcases h4 with ⟨h4, h5⟩ | ⟨h4, h5⟩
 ·rw [h5, decide_eq_true h4]; simp
 ·rw [decide_eq_true h4, decide_eq_true h5]; simp
theorem span_ok1 {n : Nd} (h : timed n.kind = true) (h2 : Ival.mayS n.lo n.hi = true) : okSpan n = true := by unfold okSpan; rw [if_pos h, h2]
theorem span_bad1 {n : Nd} (h : timed n.kind = true) (h2 : Ival.mayS n.lo n.hi = false) : okSpan n = false := by unfold okSpan; rw [if_pos h, h2]
theorem span_ok2 {n : Nd} (h : timed n.kind = false) (h2 : n.lo = 0 ∧ n.hi = 0) : okSpan n = true := by unfold okSpan; rw [if_neg (by rw [h]; decide), decide_eq_true h2]
theorem span_bad2 {n : Nd} (h : timed n.kind = false) (h2 : ¬ (n.lo = 0 ∧ n.hi = 0)) : okSpan n = false := by unfold okSpan; rw [if_neg (by rw [h]; decide), decide_eq_false h2]
theorem okKid_yes {l : List Nd} {n x : Nd} {k : Int} {t : Nat} (hx : l[t]? = some x) (h1 : k = (t : Int)) (h2 : fits n.kind x.kind = true) : okKid l n k t = true := by
 unfold okKid; rw [hx, decide_eq_true h1]; simpa using h2
theorem okKid_no1 {l : List Nd} {n : Nd} {k : Int} {t : Nat} (h1 : k ≠ (t : Int)) : okKid l n k t = false := by
 unfold okKid; rw [decide_eq_false h1]; rfl
theorem okKid_no2 {l : List Nd} {n x : Nd} {k : Int} {t : Nat} (hx : l[t]? = some x) (h2 : fits n.kind x.kind = false) : okKid l n k t = false := by
 unfold okKid; rw [hx]; simp [h2]
theorem okKids_upto {l : List Nd} {n : Nd} {ks : List Int} {ts : List Nat} (hl : ks.length = ts.length) (h : ∀ j, j < ks.length → ∀ k t, ks[j]? = some k → ts[j]? = some t → okKid l n k t = true) : okKids l n ks ts = true :=
 (okKids_at ks ts hl).2 fun j k t h1 h2 => h j (List.getElem?_eq_some_iff.1 h1).1 k t h1 h2
theorem zints_drop (st : List Nat) (j k : Nat) (t : Nat) (h : (st.drop k)[j]? = some t) : ((zints st).drop k)[j]?.getD 0 = (t : Int) := by
 unfold zints
 rw [← List.map_drop, List.getElem?_map, h]; rfl
theorem zints_next (st : List Nat) (j k : Nat) : ([] ++ (zints st).take j) ++ [(k : Int)] = zints (st.take j ++ [k]) := by
 unfold zints
 rw [List.nil_append, List.map_append, List.map_take]; rfl
theorem kid_facts {l : List Nd} {n k m b off : Nat} {nd : Nd} {st : List Nat} {w : World} (hl : l.length = n) (hst : ∀ x ∈ st, x < k) (hk : k < n) (hm : m ≤ st.length) (hkids : nd.kids.length = m)
  (hn : ∀ (j : Nat) (x : Nd), l[j]? = some x → NodeAt Any w b (off + 5 * j) x) : ∀ j, j < m → ∃ (kj : Int) (tj : Nat) (x : Nd), nd.kids[j]? = some kj ∧ (st.drop (st.length - m))[j]? = some tj ∧
   nd.kids[j]?.getD 0 = kj ∧ ((zints st).drop (st.length - m))[j]?.getD 0 = (tj : Int) ∧ tj < n ∧ l[tj]? = some x ∧ w.cell? ⟨b, off + tj * 5, none⟩ = some (.int .i64 x.kind) := by
 intro j hj
 have h1 : j < nd.kids.length := by omega
 have h2 : j < (st.drop (st.length - m)).length := by rw [List.length_drop]; omega
 have e2 := List.getElem?_eq_getElem h2
 have h3 := hst _ (List.mem_of_mem_drop (List.getElem_mem h2))
 have h4 : (st.drop (st.length - m))[j] < l.length := by omega
 refine ⟨nd.kids[j], (st.drop (st.length - m))[j], l[(st.drop (st.length - m))[j]], List.getElem?_eq_getElem h1, e2, by rw [List.getElem?_eq_getElem h1]; rfl, zints_drop st j _ _ e2, by omega, List.getElem?_eq_getElem h4, ?_⟩
 have := (hn _ _ (List.getElem?_eq_getElem h4)).1
 rwa [Nat.mul_comm] at this
theorem own_next {w : World} {base : Nat} {e : TypeId} {v : Value} {st : List Nat} {m k : Nat} (h : w.ownsRow base e 1 v (0 + (st.length - m) + 1) (((([] : List Int) ++ (zints st).take (st.length - m)) ++ [(k : Int)]).map (Value.int .i64))) :
  w.ownsRow base e 1 v (st.take (st.length - m) ++ [k]).length ((zints (st.take (st.length - m) ++ [k])).map (Value.int .i64)) := by
 rw [zints_next] at h
 have e : (st.take (st.length - m) ++ [k]).length = 0 + (st.length - m) + 1 := by
  rw [List.length_append, List.length_take, List.length_singleton]; omega
 rw [e]; exact h
theorem may_below {B : Nat} {a w w1 w2 : World} {o1 o2 : Obj} {r1 r2 : Option Nat} (h : Below B a w) (hb : B ≤ w.heap.size) (h1 : (w.alloc o1).grownBy w1 r1) (h2 : (w1.alloc o2).grownBy w2 r2) (k1 : ∀ q, r1 = some q → B ≤ q) (k2 : ∀ q, r2 = some q → B ≤ q) : Below B a w2 := by
 have b1 := (h.alloc hb o1).grown h1 (le_alloc hb) k1
 have hs : B ≤ w1.heap.size := Nat.le_trans (le_alloc hb) h1.size
 exact (b1.alloc hs o2).grown h2 (le_alloc hs) k2
theorem infoInt : (Tryz.prog.info? 3).map (fun i => (i.zero, i.size, i.bytes)) = some (some (.int .i64 0), 1, 8) := by kernel_rfl
theorem sizeElemInts : (Tryz.prog.info? (Tryz.prog.elem 29)).map (·.size) = some 1 := by kernel_rfl
theorem typeInts : Tryz.prog.underlying 29 = some (.slice (Tryz.prog.elem 29)) := by kernel_rfl
end Go.Proofs.YtdbgaccnejffpaaGreat.Tree

namespace Go.Proofs.YtdbgaccnejffpaaGreat.Tree
open Go.RowKit Go.Proofs.YtdbgaccnejffpaaGreat.Ints
def GotNodes (S : Nat → Prop) (w : World) (m : List Nd) (e : Ending) (w' : World) : Prop :=
 ∃ A c, e = .returned (.slice A m.length c) ∧ Nodes S w' A m ∧ m.length ≤ c ∧ c ≤ maxLen ∧ Below w.heap.size w w'
theorem GotNodes.none0 {S : Nat → Prop} {w w' : World} (hb : Below w.heap.size w w') : GotNodes S w [] (.returned (.slice none 0 0)) w' := ⟨none, 0, rfl, Nodes.nil _ _ _, Nat.le_refl _, by decide, hb⟩
theorem GotNodes.own {S : Nat → Prop} {w w' : World} {base : Nat} {v : Value} {σ : List SNd} {m : List Nd} (h : OwnNodes S w' base v σ) (hm : σ.map (·.1) = m) (hS : ∀ b, base ≤ b → b < w'.heap.size → S b) (hb : Below w.heap.size w w') : GotNodes S w m (.returned v) w' := by
 obtain ⟨A, c, rfl, h2, h3, h4⟩ := h.reads hS
 subst hm
 exact ⟨A, c, by rw [List.length_map], h2, by rw [List.length_map]; exact h3, h4, hb⟩
theorem kid_own {S : Nat → Prop} {w : World} {base : Nat} {kv : Value} {ks : List Int} {nd : Nd} (h : w.ownsRow base 3 1 kv ks.length (ks.map (Value.int .i64))) (hz : ∀ z ∈ ks, (Lit.int .i64 z).wf = true)
  (s0 : small64 nd.kind) (s2 : small64 nd.lo) (s3 : small64 nd.hi) (s1 : nd.name.size ≤ maxLen) (hS : ∀ b, base ≤ b → S b) : ∃ K c, kv = .slice K ks.length c ∧ KidOk S w ({ nd with kids := ks }, K, c) := by
 obtain ⟨K, c, rfl, h1, h2, -, h4⟩ := own_slice h
 exact ⟨K, c, rfl, ⟨s0, s2, s3, s1, Rd.own h hz, h1, h2⟩, fun a e _ => hS _ (h4 a e).1⟩
theorem KidOk.setCell {S : Nat → Prop} {w : World} {s : SNd} (h : KidOk S w s) (p : Addr) (u : Value) (hp : ∀ b, S b → p.block ≠ b) : KidOk S (w.setCell p u) s :=
 h.keep fun q _ hq hc => (World.cell?_setCell_far w p q u (hp _ hq)).trans hc
theorem wf_moved {ks : List Int} {d B : Int} (h : ∀ k ∈ ks, 0 ≤ k ∧ k < B) (hd : -B ≤ d ∧ d ≤ B) (hB : B ≤ 1048576) : ∀ z ∈ ks.map (· + d), (Lit.int .i64 z).wf = true := by
 intro z hz
 obtain ⟨k, hk, rfl⟩ := List.mem_map.1 hz
 have := h k hk
 exact WalkArith.wf_i64 (by omega)
theorem part_cut {l : List Nd} {i f : Nat} (j : Nat) (hj : j < i + 1 - f) : ((l.take (i + 1)).drop f)[j]? = l[f + j]? := by
 rw [List.getElem?_drop, List.getElem?_take_of_lt (by omega)]
theorem part_len {l : List Nd} {i f : Nat} (hi : i < l.length) : ((l.take (i + 1)).drop f).length = i + 1 - f := by
 rw [List.length_drop, List.length_take]; omega
theorem slice_part {P : Program} (t : TypeId) (ht : P.underlying t = some (.slice (P.elem t))) (size : Nat) (hs : (P.info? (P.elem t)).map (·.size) = some size) (A : Option Addr) (n cap k m : Nat) (hk : k ≤ m) (hm : m ≤ cap) (W : World) :
  (Instr.slice t (.slice A n cap) (some (.int .i64 (k : Int))) (some (.int .i64 (m : Int))) none).run P W = .ok (.slice (fromAddr A cap k size) (m - k) (cap - k)) W := by
 rw [run_slice_lh W t A n cap ht .i64 .i64 (k : Int) (m : Int) (by omega) (by omega) (by omega)]
 obtain ⟨i, hi, hz⟩ := Option.map_eq_some_iff.1 hs
 simp [sizeOf, typeInfo, hi, hz, Result.andThen, sliced, fromAddr]
theorem sizeElemNodes : (Tryz.prog.info? (Tryz.prog.elem 26)).map (·.size) = some 5 := by kernel_rfl
theorem typeNodes : Tryz.prog.underlying 26 = some (.slice (Tryz.prog.elem 26)) := by kernel_rfl
def cutL (l : List Nd) (f i : Nat) : List Nd := ((l.take (i + 1)).drop f).map (shiftNd (-(f : Int)))
theorem cut_next {l : List Nd} {f i j : Nat} {nd : Nd} (hi : i < l.length) (hj : j < i + 1 - f) (h : l[f + j]? = some nd) : (cutL l f i).take (j + 1) = (cutL l f i).take j ++ [shiftNd (-(f : Int)) nd] := by
 unfold cutL
 have hl := part_len (f := f) hi
 have hj' : j < (((l.take (i + 1)).drop f).map (shiftNd (-(f : Int)))).length := by rw [List.length_map, hl]; exact hj
 rw [List.take_succ_eq_append_getElem hj']
 congr 2
 rw [List.getElem_map]
 have := part_cut (l := l) (i := i) (f := f) j hj
 rw [h, List.getElem?_eq_getElem (by omega)] at this
 rw [Option.some.inj this]
theorem kid_cells {nd : Nd} {ks : List Int} {K : Option Addr} {c m : Nat} (h : ks.length = m) : cellsS ({ nd with kids := ks }, K, c) = [.int .i64 nd.kind, .string nd.name, .int .i64 nd.lo, .int .i64 nd.hi, .slice K m c] := by
 subst h; rfl
theorem moved_next (ks : List Int) (j t : Nat) (d : Int) (h : ks.take (j + 1) = ks.take j ++ [(t : Int)]) : ((ks.take j).map (· + d)) ++ [(t : Int) + d] = (ks.take (j + 1)).map (· + d) := by
 rw [h, List.map_append]; rfl
end Go.Proofs.YtdbgaccnejffpaaGreat.Tree

namespace Go.Proofs.YtdbgaccnejffpaaGreat.Tree
open Go.RowKit
theorem refFormKind (k : Int) (w : World) :
  Calls Tryz.prog 29 #[.int .i64 k] w fun e w' => e = .returned (.bool (formKind k)) ∧ w' = w := by
 have h : formKind k = (decide (1 ≤ k) && decide (k ≤ 17)) := Bool.decide_and _ _
 rw [h]
 by_cases h1 : 1 ≤ k
 all_goals
  go_enter Tryz.func29, Tryz.ntmps29
  go_wp2
  go_ret
  exact ⟨by first | (simp [h1]; done) | (simp; omega), rfl⟩
theorem refTimed (k : Int) (w : World) :
  Calls Tryz.prog 58 #[.int .i64 k] w fun e w' => e = .returned (.bool (timed k)) ∧ w' = w := by
 have h : timed k = (decide (8 ≤ k) && decide (k ≤ 17)) := Bool.decide_and _ _
 rw [h]
 by_cases h1 : 8 ≤ k
 all_goals
  go_enter Tryz.func58, Tryz.ntmps58
  go_wp2
  go_ret
  exact ⟨by first | (simp [h1]; done) | (simp; omega), rfl⟩
set_option maxHeartbeats 2000000 in
theorem refArity (k : Int) (w : World) :
  Calls Tryz.prog 57 #[.int .i64 k] w fun e w' => e = .returned (.int .i64 (arity k)) ∧ w' = w := by
 rcases arity_ways k with h | h | ⟨a1, a2, a3, a4, a5, a6, a7, a8, a9, a10, a11, h⟩
 ·rcases h with rfl | rfl | rfl | rfl
  all_goals
   go_enter Tryz.func57, Tryz.ntmps57
   go_wp2
   go_ret
   exact ⟨rfl, rfl⟩
 ·rcases h with rfl | rfl | rfl | rfl | rfl | rfl | rfl
  all_goals
   go_enter Tryz.func57, Tryz.ntmps57
   go_wp2
   go_ret
   exact ⟨rfl, rfl⟩
 ·by_cases h1 : k < 1
  ·rw [h, if_pos (Or.inl h1)]
   clear h
   go_enter Tryz.func57, Tryz.ntmps57
   go_wp2
   go_ret
   exact ⟨rfl, rfl⟩
  ·by_cases h2 : 22 < k
   ·rw [h, if_pos (Or.inr h2)]
    clear h
    go_enter Tryz.func57, Tryz.ntmps57
    go_wp2
    go_ret
    exact ⟨rfl, rfl⟩
   ·rw [h, if_neg (by omega)]
    have h1' : decide (k < 1) = false := decide_eq_false h1
    have h2' : decide (22 < k) = false := decide_eq_false h2
    clear h
    go_enter Tryz.func57, Tryz.ntmps57
    go_wp2
    go_ret
    exact ⟨rfl, rfl⟩
theorem refFits (k c : Int) (w : World) :
  Calls Tryz.prog 60 #[.int .i64 k, .int .i64 c] w fun e w' => e = .returned (.bool (fits k c)) ∧ w' = w := by
 have hF := fun W => refFormKind c W
 by_cases h : k = 16 ∨ k = 17 ∨ k = 20 ∨ k = 21 ∨ k = 22
 ·have e : fits k c = !(formKind c) := by
   unfold fits
   rw [if_pos (by simp only [regs, List.mem_cons, List.not_mem_nil, or_false]; exact h)]
  rw [e]
  obtain ⟨b, hb⟩ : ∃ b, formKind c = b := ⟨_, rfl⟩
  rw [hb] at hF ⊢
  have HF := Lib.hid hF
  clear hF hb e
  rcases h with rfl | rfl | rfl | rfl | rfl
  all_goals
   go_enter Tryz.func60, Tryz.ntmps60
   go_wp2_with (go_at_call 29; refine (HF.out _).mono ?_; rintro e w' ⟨rfl, rfl⟩)
   go_ret
   exact ⟨rfl, rfl⟩
 ·have e : fits k c = formKind c := by
   unfold fits
   rw [if_neg (by simp only [regs, List.mem_cons, List.not_mem_nil, or_false]; exact h)]
  rw [e]
  have a1 : (k == 16) = false := beq_eq_false_iff_ne.2 (by omega)
  have a2 : (k == 17) = false := beq_eq_false_iff_ne.2 (by omega)
  have a3 : (k == 20) = false := beq_eq_false_iff_ne.2 (by omega)
  have a4 : (k == 21) = false := beq_eq_false_iff_ne.2 (by omega)
  have a5 : (k == 22) = false := beq_eq_false_iff_ne.2 (by omega)
  obtain ⟨b, hb⟩ : ∃ b, formKind c = b := ⟨_, rfl⟩
  rw [hb] at hF ⊢
  have HF := Lib.hid hF
  clear hF hb e h
  go_enter Tryz.func60, Tryz.ntmps60
  go_wp2_with (go_at_call 29; refine (HF.out _).mono ?_; rintro e w' ⟨rfl, rfl⟩)
  go_ret
  exact ⟨rfl, rfl⟩
end Go.Proofs.YtdbgaccnejffpaaGreat.Tree
