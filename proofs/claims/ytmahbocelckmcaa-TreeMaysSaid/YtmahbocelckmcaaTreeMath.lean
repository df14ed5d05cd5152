/-
  Lists of nodes that may be, as a run over the nodes with the open ones. By an AI agent.
-/
import Derived.Test.YtmahbocelckmcaaTreeRef
import Derived.Test.YtmahbocelckmcaaNodes
import Derived.Test.YtmahbocelckmcaaIvalMay
import Derived.Test.YtmahbocelckmcaaLexMath
namespace Go.Proofs.Ytmahbocelckmcaa.Tree
open Go.RowKit

def okShape (n : Nd) (have_ : Nat) : Bool :=
  decide (0 ≤ arity n.kind) && (decide ((n.kids.length : Int) = arity n.kind) && (decide (arity n.kind ≤ have_) && ((decide (n.kind ≠ 3) || Lex.nameS n.name.data.toList) && (decide (n.kind = 3) || decide (n.name.data.toList = [])))))
def okSpan (n : Nd) : Bool := if timed n.kind then Ival.mayS n.lo n.hi else decide (n.lo = 0 ∧ n.hi = 0)
def okKid (l : List Nd) (n : Nd) (k : Int) (t : Nat) : Bool := decide (k = (t : Int)) && fits n.kind ((l[t]?.map (·.kind)).getD 0)
def okKids (l : List Nd) (n : Nd) : List Int → List Nat → Bool
  | k :: ks, t :: ts => okKid l n k t && okKids l n ks ts
  | [], [] => true
  | _, _ => false
def mayStep (l : List Nd) (st : List Nat) (i : Nat) : Option (List Nat) :=
  match l[i]? with
  | none => none
  | some n => if okShape n st.length = true ∧ okSpan n = true ∧ okKids l n n.kids (st.drop (st.length - n.kids.length)) = true then some (st.take (st.length - n.kids.length) ++ [i]) else none
def mayUpTo (l : List Nd) : Nat → Option (List Nat)
  | 0 => some []
  | i + 1 => (mayUpTo l i).bind fun st => mayStep l st i
def mayL (l : List Nd) : Bool :=
  match mayUpTo l l.length with
  | some st => decide (st.length = 1)
  | none => false

theorem upTo_none (l : List Nd) (i : Nat) (h : mayUpTo l i = none) : ∀ j, i ≤ j → mayUpTo l j = none := by
  intro j hj
  induction j with
  | zero =>
    have : i = 0 := by omega
    subst this; exact h
  | succ j ih =>
    by_cases he : i = j + 1
    · subst he; exact h
    · rw [mayUpTo, ih (by omega)]
      rfl
theorem may_stop {l : List Nd} {i : Nat} {st : List Nat} (h : mayUpTo l i = some st) (hi : i < l.length) (hs : mayStep l st i = none) : mayL l = false := by
  have h1 : mayUpTo l (i + 1) = none := by rw [mayUpTo, h]; exact hs
  have h2 := upTo_none l (i + 1) h1 l.length (by omega)
  unfold mayL
  rw [h2]
theorem may_end {l : List Nd} {st : List Nat} (h : mayUpTo l l.length = some st) : mayL l = decide (st.length = 1) := by
  unfold mayL
  rw [h]
theorem may_go {l : List Nd} {i : Nat} {st st' : List Nat} (h : mayUpTo l i = some st) (hs : mayStep l st i = some st') : mayUpTo l (i + 1) = some st' := by
  rw [mayUpTo, h]; exact hs
theorem upTo_lt (l : List Nd) : ∀ (i : Nat) (st : List Nat), mayUpTo l i = some st → (∀ x ∈ st, x < i) ∧ st.length ≤ i := by
  intro i
  induction i with
  | zero => intro st h; cases h; simp
  | succ i ih =>
    intro st h
    rw [mayUpTo] at h
    obtain ⟨s0, h1, h2⟩ := Option.bind_eq_some_iff.1 h
    obtain ⟨a, b⟩ := ih s0 h1
    unfold mayStep at h2
    split at h2
    · cases h2
    · split at h2
      · cases h2
        refine ⟨fun x hx => ?_, ?_⟩
        · rcases List.mem_append.1 hx with hx | hx
          · have := a x (List.mem_of_mem_take hx); omega
          · rw [List.mem_singleton.1 hx]; omega
        · simp only [List.length_append, List.length_take, List.length_singleton]
          omega
      · cases h2
theorem okKids_at {l : List Nd} {n : Nd} : ∀ (ks : List Int) (ts : List Nat), ks.length = ts.length → (okKids l n ks ts = true ↔ ∀ (j : Nat) (k : Int) (t : Nat), ks[j]? = some k → ts[j]? = some t → okKid l n k t = true)
  | [], [], _ => by simp [okKids]
  | k :: ks, t :: ts, h => by
    have ih := okKids_at (l := l) (n := n) ks ts (by simpa using h)
    simp only [okKids, Bool.and_eq_true, ih]
    constructor
    · rintro ⟨h1, h2⟩ j x y hx hy
      cases j with
      | zero => simp only [List.getElem?_cons_zero, Option.some.injEq] at hx hy; subst hx; subst hy; exact h1
      | succ j => exact h2 j x y (by simpa using hx) (by simpa using hy)
    · intro h1
      exact ⟨h1 0 k t rfl rfl, fun j x y hx hy => h1 (j + 1) x y (by simpa using hx) (by simpa using hy)⟩
  | [], _ :: _, h => by simp at h
  | _ :: _, [], h => by simp at h
theorem okKids_bad {l : List Nd} {n : Nd} {ks : List Int} {ts : List Nat} (j : Nat) {k : Int} {t : Nat} (h1 : ks[j]? = some k) (h2 : ts[j]? = some t) (h : okKid l n k t = false) : okKids l n ks ts = false := by
  rcases hb : okKids l n ks ts
  · rfl
  · by_cases hl : ks.length = ts.length
    · have := (okKids_at ks ts hl).1 hb j k t h1 h2
      rw [h] at this
      cases this
    · exfalso
      clear h1 h2 h
      revert hb hl
      induction ks generalizing ts with
      | nil => cases ts with
        | nil => simp
        | cons t ts => simp [okKids]
      | cons k ks ih => cases ts with
        | nil => simp [okKids]
        | cons t ts =>
          simp only [okKids, Bool.and_eq_true, List.length_cons]
          intro hb hl
          exact ih hb.2 (by omega)
end Go.Proofs.Ytmahbocelckmcaa.Tree
