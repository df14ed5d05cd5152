/-
  What a list of nodes that may be asks, as plain functions. By an AI agent.
-/
import Derived.Test.YthcbgneoonekkaaDoorGShowNest5
import Derived.Test.YthcbgneoonekkaaDoorGShowNest6
/- What the landed program asks of a list of nodes, as plain functions; it is what may be. By an AI agent. -/
namespace Go.Proofs.YthcbgneoonekkaaDoor.Tree
open Go.RowKit

/-- As many kids as a kind takes: one, where it is none. -/
def kidc (k : Int) : Nat := if k ∈ none0 then 0 else if k ∈ twos then 2 else 1
def regKind (k : Int) : Bool := decide (18 ≤ k ∧ k ≤ 22)
def takesReg (k : Int) : Bool := decide (k ∈ regs)
def nameOkB (n : Nd) : Bool := if n.kind = 3 then Lex.nameS n.name.data.toList else decide (n.name.data.toList = [])
def fieldsB (n : Nd) : Bool := (formKind n.kind || regKind n.kind) && (nameOkB n && okSpan n)
def kindAt (l : List Nd) (k : Int) : Int := (l[k.toNat]?.map (·.kind)).getD 0
def kidsB (l : List Nd) (n : Nd) : Bool := n.kids.all fun k => regKind (kindAt l k) == takesReg n.kind
def landStep (l : List Nd) (st : List Nat) (i : Nat) (n : Nd) : Option (List Nat) :=
  if kidc n.kind ≤ st.length ∧ n.kids = (zints st).drop (st.length - kidc n.kind) ∧ fieldsB n = true ∧ kidsB l n = true then some (st.take (st.length - kidc n.kind) ++ [i]) else none

theorem kidc_arity {k : Int} (h : 1 ≤ k ∧ k ≤ 22) : arity k = (kidc k : Int) := by
  unfold arity kidc
  by_cases h1 : k ∈ none0
  · rw [if_pos h1, if_pos h1]; rfl
  · rw [if_neg h1, if_neg h1]
    by_cases h2 : k ∈ twos
    · rw [if_pos h2, if_pos h2]; rfl
    · rw [if_neg h2, if_neg h2, if_neg (by omega)]; rfl
theorem arity_range {k : Int} (h : 0 ≤ arity k) : 1 ≤ k ∧ k ≤ 22 := by
  unfold arity at h
  by_cases h1 : k ∈ none0
  · simp only [none0, List.mem_cons, List.not_mem_nil, or_false] at h1; omega
  · rw [if_neg h1] at h
    by_cases h2 : k ∈ twos
    · simp only [twos, List.mem_cons, List.not_mem_nil, or_false] at h2; omega
    · rw [if_neg h2] at h
      by_cases h3 : k < 1 ∨ 22 < k
      · rw [if_pos h3] at h; omega
      · omega
theorem kinds_range (k : Int) : (formKind k || regKind k) = true ↔ 1 ≤ k ∧ k ≤ 22 := by
  unfold formKind regKind
  simp only [Bool.or_eq_true, decide_eq_true_eq]
  omega
/-- The kinds of the nodes that were taken. -/
theorem upTo_kinds {l : List Nd} : ∀ (i : Nat) (st : List Nat), mayUpTo l i = some st → ∀ (j : Nat) (x : Nd), j < i → l[j]? = some x → 1 ≤ x.kind ∧ x.kind ≤ 22 := by
  intro i
  induction i with
  | zero => intro st _ j x hj; omega
  | succ i ih =>
    intro st h j x hj hx
    rw [mayUpTo] at h
    obtain ⟨s0, h1, h2⟩ := Option.bind_eq_some_iff.1 h
    by_cases e : j = i
    · subst e
      unfold mayStep at h2
      rw [hx] at h2
      simp only at h2
      split at h2
      · rename_i hc
        exact arity_range (shape_parts hc.1).1
      · cases h2
    · exact ih s0 h1 j x (by omega) hx
theorem fits_reg {k c : Int} (h : 1 ≤ c ∧ c ≤ 22) : fits k c = (regKind c == takesReg k) := by
  unfold fits takesReg regKind formKind
  by_cases h1 : k ∈ regs
  · rw [if_pos h1, decide_eq_true h1]
    by_cases h2 : c ≤ 17
    · rw [decide_eq_true (by omega), decide_eq_false (by omega)]; rfl
    · rw [decide_eq_false (by omega), decide_eq_true (by omega)]; rfl
  · rw [if_neg h1, decide_eq_false h1]
    by_cases h2 : c ≤ 17
    · rw [decide_eq_true (by omega), decide_eq_false (by omega)]; rfl
    · rw [decide_eq_false (by omega), decide_eq_true (by omega)]; rfl
/-- The kids of a node against the last open ones. -/
theorem okKids_iff {l : List Nd} {n : Nd} {ks : List Int} {ts : List Nat} (ht : ∀ t ∈ ts, ∃ x, l[t]? = some x ∧ 1 ≤ x.kind ∧ x.kind ≤ 22) :
    okKids l n ks ts = true ↔ ks = zints ts ∧ (ks.all fun k => regKind (kindAt l k) == takesReg n.kind) = true := by
  induction ks generalizing ts with
  | nil =>
    cases ts with
    | nil => simp [okKids, zints]
    | cons t ts => simp [okKids, zints]
  | cons k ks ih =>
    cases ts with
    | nil => simp [okKids, zints]
    | cons t ts =>
      obtain ⟨x, hx, hk⟩ := ht t List.mem_cons_self
      have hkid : okKid l n k t = true ↔ k = (t : Int) ∧ (regKind (kindAt l (t : Int)) == takesReg n.kind) = true := by
        unfold okKid kindAt
        rw [Int.toNat_natCast, hx, Option.map_some, Option.getD_some, fits_reg hk, Bool.and_eq_true, decide_eq_true_eq]
      have ih' := ih (ts := ts) fun t' ht' => ht t' (List.mem_cons_of_mem _ ht')
      simp only [okKids, Bool.and_eq_true, hkid, ih', zints, List.map_cons, List.cons.injEq, List.all_cons]
      constructor
      · rintro ⟨⟨rfl, h1⟩, h2, h3⟩; exact ⟨⟨rfl, h2⟩, h1, h3⟩
      · rintro ⟨⟨rfl, h2⟩, h1, h3⟩; exact ⟨⟨rfl, h1⟩, h2, h3⟩
theorem land_step {l : List Nd} {st : List Nat} {i : Nat} {n : Nd} (hu : mayUpTo l i = some st) (hi : l[i]? = some n) : mayStep l st i = landStep l st i n := by
  have hlt := (upTo_lt l i st hu).1
  have hkinds := upTo_kinds i st hu
  have hin : i < l.length := (List.getElem?_eq_some_iff.1 hi).1
  have hts : ∀ k, ∀ t ∈ st.drop k, ∃ x, l[t]? = some x ∧ 1 ≤ x.kind ∧ x.kind ≤ 22 := fun k t ht => by
    have h1 := hlt t (List.mem_of_mem_drop ht)
    have h2 : t < l.length := by omega
    exact ⟨l[t], List.getElem?_eq_getElem h2, hkinds t _ h1 (List.getElem?_eq_getElem h2)⟩
  unfold landStep
  by_cases h : kidc n.kind ≤ st.length ∧ n.kids = (zints st).drop (st.length - kidc n.kind) ∧ fieldsB n = true ∧ kidsB l n = true
  · rw [if_pos h]
    obtain ⟨h1, h2, h3, h4⟩ := h
    unfold fieldsB at h3
    rw [Bool.and_eq_true, Bool.and_eq_true, kinds_range] at h3
    obtain ⟨h5, h6, h7⟩ := h3
    have ha := kidc_arity h5
    have hkl : n.kids.length = kidc n.kind := by rw [h2, List.length_drop, zints, List.length_map]; omega
    have hsh : okShape n st.length = true := by
      refine shape_ok (by omega) (by rw [ha, hkl]) (by omega) ?_
      unfold nameOkB at h6
      by_cases h8 : n.kind = 3
      · rw [if_pos h8] at h6; exact Or.inl ⟨h8, h6⟩
      · rw [if_neg h8] at h6; exact Or.inr ⟨h8, of_decide_eq_true h6⟩
    have hz : (zints st).drop (st.length - kidc n.kind) = zints (st.drop (st.length - kidc n.kind)) := by unfold zints; rw [List.map_drop]
    have := step_some hi hsh h7 (by rw [hkl]; exact (okKids_iff (hts _)).2 ⟨by rw [h2, hz], h4⟩)
    rw [this, hkl]
  · rw [if_neg h]
    unfold mayStep
    rw [hi]
    simp only
    rw [if_neg]
    rintro ⟨h1, h2, h3⟩
    obtain ⟨a1, a2, a3, a4, a5⟩ := shape_parts h1
    have hr := arity_range a1
    have ha := kidc_arity hr
    have hkl : n.kids.length = kidc n.kind := by omega
    rw [hkl] at h3
    obtain ⟨b1, b2⟩ := (okKids_iff (hts _)).1 h3
    refine h ⟨by omega, by rw [b1]; unfold zints; rw [List.map_drop], ?_, b2⟩
    unfold fieldsB
    rw [(kinds_range _).2 hr, h2, Bool.true_and, Bool.and_true]
    unfold nameOkB
    by_cases h8 : n.kind = 3
    · rw [if_pos h8]; exact a4 h8
    · rw [if_neg h8]; exact decide_eq_true (a5 h8)
/-- A round that ends it. -/
theorem land_stop {l : List Nd} {st : List Nat} {i : Nat} {n : Nd} (hu : mayUpTo l i = some st) (hi : l[i]? = some n) (h : ¬ (kidc n.kind ≤ st.length ∧ n.kids = (zints st).drop (st.length - kidc n.kind) ∧ fieldsB n = true ∧ kidsB l n = true)) : mayL l = false :=
  may_stop hu (List.getElem?_eq_some_iff.1 hi).1 (by rw [land_step hu hi]; unfold landStep; rw [if_neg h])
theorem land_go {l : List Nd} {st : List Nat} {i : Nat} {n : Nd} (hu : mayUpTo l i = some st) (hi : l[i]? = some n) (h : kidc n.kind ≤ st.length ∧ n.kids = (zints st).drop (st.length - kidc n.kind) ∧ fieldsB n = true ∧ kidsB l n = true) : mayUpTo l (i + 1) = some (st.take (st.length - kidc n.kind) ++ [i]) :=
  may_go hu (by rw [land_step hu hi]; unfold landStep; rw [if_pos h])
end Go.Proofs.YthcbgneoonekkaaDoor.Tree
