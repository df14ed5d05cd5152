/-
  The walk of the reference's May. By an AI agent.
  What a list of nodes that may be asks, as plain functions. By an AI agent.
-/
import Derived.Test.YtmjfopggehopjaaDoorGShowTells5
import Derived.Test.YtmjfopggehopjaaDoorGShowTells4
import Derived.OwnWalk
import Derived.Deep.QuietTactic
import Derived.BigQuiet
namespace Go.Proofs.YtmjfopggehopjaaDoor.Tree
open Go.RowKit Go.Proofs.YtmjfopggehopjaaDoor.Ints

def zints (st : List Nat) : List Int := st.map fun x : Nat => (x : Int)
theorem zints_get (st : List Nat) (j : Nat) (t : Nat) (h : st[j]? = some t) : (zints st)[j]?.getD 0 = (t : Int) := by
  unfold zints
  rw [List.getElem?_map, h]; rfl
theorem zints_wf (st : List Nat) (n : Nat) (hn : n ≤ 1048576) (h : ∀ x ∈ st, x < n) : ∀ z ∈ zints st, (Lit.int .i64 z).wf = true := by
  intro z hz
  obtain ⟨x, hx, rfl⟩ := List.mem_map.1 hz
  have := h x hx
  exact WalkArith.wf_i64 (by omega)
theorem step_none {l : List Nd} {st : List Nat} {k : Nat} {nd : Nd} (hk : l[k]? = some nd) (h : okShape nd st.length = false ∨ okSpan nd = false ∨ okKids l nd nd.kids (st.drop (st.length - nd.kids.length)) = false) : mayStep l st k = none := by
  unfold mayStep
  rw [hk]
  simp only
  rw [if_neg]
  rintro ⟨h1, h2, h3⟩
  rcases h with h | h | h
  · rw [h] at h1; cases h1
  · rw [h] at h2; cases h2
  · rw [h] at h3; cases h3
theorem step_some {l : List Nd} {st : List Nat} {k : Nat} {nd : Nd} (hk : l[k]? = some nd) (h1 : okShape nd st.length = true) (h2 : okSpan nd = true) (h3 : okKids l nd nd.kids (st.drop (st.length - nd.kids.length)) = true) :
    mayStep l st k = some (st.take (st.length - nd.kids.length) ++ [k]) := by
  unfold mayStep
  rw [hk]
  simp only
  rw [if_pos ⟨h1, h2, h3⟩]
theorem shape_bad1 {n : Nd} {k : Nat} (h : arity n.kind < 0) : okShape n k = false := by
  unfold okShape; rw [decide_eq_false (by omega)]; rfl
theorem shape_bad2 {n : Nd} {k : Nat} (h : ¬ (n.kids.length : Int) = arity n.kind) : okShape n k = false := by
  unfold okShape; rw [decide_eq_false h]; simp
theorem shape_bad3 {n : Nd} {k : Nat} (h : ¬ arity n.kind ≤ k) : okShape n k = false := by
  unfold okShape; rw [decide_eq_false h]; simp
theorem shape_bad4 {n : Nd} {k : Nat} (h : n.kind = 3) (h2 : Lex.nameS n.name.data.toList = false) : okShape n k = false := by
  unfold okShape; rw [decide_eq_false (show ¬ n.kind ≠ 3 from fun x => x h), h2]; simp
theorem shape_bad5 {n : Nd} {k : Nat} (h : n.kind ≠ 3) (h2 : n.name.data.toList ≠ []) : okShape n k = false := by
  unfold okShape; rw [decide_eq_false h, decide_eq_false h2]; simp
theorem shape_ok {n : Nd} {k : Nat} (h1 : 0 ≤ arity n.kind) (h2 : (n.kids.length : Int) = arity n.kind) (h3 : arity n.kind ≤ k) (h4 : (n.kind = 3 ∧ Lex.nameS n.name.data.toList = true) ∨ (n.kind ≠ 3 ∧ n.name.data.toList = [])) : okShape n k = true := by
  unfold okShape
  rw [decide_eq_true h1, decide_eq_true h2, decide_eq_true h3]
  rcases h4 with ⟨h4, h5⟩ | ⟨h4, h5⟩
  · rw [h5, decide_eq_true h4]; simp
  · rw [decide_eq_true h4, decide_eq_true h5]; simp
theorem span_ok1 {n : Nd} (h : timed n.kind = true) (h2 : Ival.mayS n.lo n.hi = true) : okSpan n = true := by unfold okSpan; rw [if_pos h, h2]
theorem span_bad1 {n : Nd} (h : timed n.kind = true) (h2 : Ival.mayS n.lo n.hi = false) : okSpan n = false := by unfold okSpan; rw [if_pos h, h2]
theorem span_ok2 {n : Nd} (h : timed n.kind = false) (h2 : n.lo = 0 ∧ n.hi = 0) : okSpan n = true := by unfold okSpan; rw [if_neg (by rw [h]; decide), decide_eq_true h2]
theorem span_bad2 {n : Nd} (h : timed n.kind = false) (h2 : ¬ (n.lo = 0 ∧ n.hi = 0)) : okSpan n = false := by unfold okSpan; rw [if_neg (by rw [h]; decide), decide_eq_false h2]
theorem okKid_yes {l : List Nd} {n x : Nd} {k : Int} {t : Nat} (hx : l[t]? = some x) (h1 : k = (t : Int)) (h2 : fits n.kind x.kind = true) : okKid l n k t = true := by
  unfold okKid; rw [hx, decide_eq_true h1]; simpa using h2
theorem okKid_no1 {l : List Nd} {n : Nd} {k : Int} {t : Nat} (h1 : k ≠ (t : Int)) : okKid l n k t = false := by
  unfold okKid; rw [decide_eq_false h1]; rfl
theorem okKid_no2 {l : List Nd} {n x : Nd} {k : Int} {t : Nat} (hx : l[t]? = some x) (h2 : fits n.kind x.kind = false) : okKid l n k t = false := by
  unfold okKid; rw [hx]; simp [h2]
theorem okKids_upto {l : List Nd} {n : Nd} {ks : List Int} {ts : List Nat} (hl : ks.length = ts.length) (h : ∀ j, j < ks.length → ∀ k t, ks[j]? = some k → ts[j]? = some t → okKid l n k t = true) : okKids l n ks ts = true :=
  (okKids_at ks ts hl).2 fun j k t h1 h2 => h j (List.getElem?_eq_some_iff.1 h1).1 k t h1 h2

theorem zints_drop (st : List Nat) (j k : Nat) (t : Nat) (h : (st.drop k)[j]? = some t) : ((zints st).drop k)[j]?.getD 0 = (t : Int) := by
  unfold zints
  rw [← List.map_drop, List.getElem?_map, h]; rfl
theorem zints_next (st : List Nat) (j k : Nat) : ([] ++ (zints st).take j) ++ [(k : Int)] = zints (st.take j ++ [k]) := by
  unfold zints
  rw [List.nil_append, List.map_append, List.map_take]; rfl
/-- What a round of the kids' loop reads. -/
theorem kid_facts {l : List Nd} {n k m b off : Nat} {nd : Nd} {st : List Nat} {w : World} (hl : l.length = n) (hst : ∀ x ∈ st, x < k) (hk : k < n) (hm : m ≤ st.length) (hkids : nd.kids.length = m)
    (hn : ∀ (j : Nat) (x : Nd), l[j]? = some x → NodeAt Any w b (off + 5 * j) x) : ∀ j, j < m → ∃ (kj : Int) (tj : Nat) (x : Nd), nd.kids[j]? = some kj ∧ (st.drop (st.length - m))[j]? = some tj ∧
      nd.kids[j]?.getD 0 = kj ∧ ((zints st).drop (st.length - m))[j]?.getD 0 = (tj : Int) ∧ tj < n ∧ l[tj]? = some x ∧ w.cell? ⟨b, off + tj * 5, none⟩ = some (.int .i64 x.kind) := by
  intro j hj
  have h1 : j < nd.kids.length := by omega
  have h2 : j < (st.drop (st.length - m)).length := by rw [List.length_drop]; omega
  have e2 := List.getElem?_eq_getElem h2
  have h3 := hst _ (List.mem_of_mem_drop (List.getElem_mem h2))
  have h4 : (st.drop (st.length - m))[j] < l.length := by omega
  refine ⟨nd.kids[j], (st.drop (st.length - m))[j], l[(st.drop (st.length - m))[j]], List.getElem?_eq_getElem h1, e2, by rw [List.getElem?_eq_getElem h1]; rfl, zints_drop st j _ _ e2, by omega, List.getElem?_eq_getElem h4, ?_⟩
  have := (hn _ _ (List.getElem?_eq_getElem h4)).1
  rwa [Nat.mul_comm] at this

theorem own_next {w : World} {base : Nat} {e : TypeId} {v : Value} {st : List Nat} {m k : Nat} (h : w.ownsRow base e 1 v (0 + (st.length - m) + 1) (((([] : List Int) ++ (zints st).take (st.length - m)) ++ [(k : Int)]).map (Value.int .i64))) :
    w.ownsRow base e 1 v (st.take (st.length - m) ++ [k]).length ((zints (st.take (st.length - m) ++ [k])).map (Value.int .i64)) := by
  rw [zints_next] at h
  have e : (st.take (st.length - m) ++ [k]).length = 0 + (st.length - m) + 1 := by
    rw [List.length_append, List.length_take, List.length_singleton]; omega
  rw [e]; exact h
theorem may_below {B : Nat} {a w w1 w2 : World} {o1 o2 : Obj} {r1 r2 : Option Nat} (h : Below B a w) (hb : B ≤ w.heap.size) (h1 : (w.alloc o1).grownBy w1 r1) (h2 : (w1.alloc o2).grownBy w2 r2) (k1 : ∀ q, r1 = some q → B ≤ q) (k2 : ∀ q, r2 = some q → B ≤ q) : Below B a w2 := by
  have b1 := (h.alloc hb o1).grown h1 (le_alloc hb) k1
  have hs : B ≤ w1.heap.size := Nat.le_trans (le_alloc hb) h1.size
  exact (b1.alloc hs o2).grown h2 (le_alloc hs) k2

theorem infoInt : (Tryd.prog.info? 3).map (fun i => (i.zero, i.size, i.bytes)) = some (some (.int .i64 0), 1, 8) := by kernel_rfl
theorem sizeElemInts : (Tryd.prog.info? (Tryd.prog.elem 32)).map (·.size) = some 1 := by kernel_rfl
theorem typeInts : Tryd.prog.underlying 32 = some (.slice (Tryd.prog.elem 32)) := by kernel_rfl

end Go.Proofs.YtmjfopggehopjaaDoor.Tree

/- What the landed program asks of a list of nodes, as plain functions; it is what may be. By an AI agent. -/
namespace Go.Proofs.YtmjfopggehopjaaDoor.Tree
open Go.RowKit

/-- As many kids as a kind takes: one, where it is none. -/
def kidc (k : Int) : Nat := if k ∈ none0 then 0 else if k ∈ twos then 2 else 1
def regKind (k : Int) : Bool := decide (18 ≤ k ∧ k ≤ 22)
def takesReg (k : Int) : Bool := decide (k ∈ regs)
def nameOkB (n : Nd) : Bool := if n.kind = 3 then Lex.nameS n.name.data.toList else decide (n.name.data.toList = [])
def fieldsB (n : Nd) : Bool := (formKind n.kind || regKind n.kind) && (nameOkB n && okSpan n)
def kindAt (l : List Nd) (k : Int) : Int := (l[k.toNat]?.map (·.kind)).getD 0
def kidsB (l : List Nd) (n : Nd) : Bool := n.kids.all fun k => regKind (kindAt l k) == takesReg n.kind
def landStep (l : List Nd) (st : List Nat) (i : Nat) (n : Nd) : Option (List Nat) :=
  if kidc n.kind ≤ st.length ∧ n.kids = (zints st).drop (st.length - kidc n.kind) ∧ fieldsB n = true ∧ kidsB l n = true then some (st.take (st.length - kidc n.kind) ++ [i]) else none

theorem kidc_arity {k : Int} (h : 1 ≤ k ∧ k ≤ 22) : arity k = (kidc k : Int) := by
  unfold arity kidc
  by_cases h1 : k ∈ none0
  · rw [if_pos h1, if_pos h1]; rfl
  · rw [if_neg h1, if_neg h1]
    by_cases h2 : k ∈ twos
    · rw [if_pos h2, if_pos h2]; rfl
    · rw [if_neg h2, if_neg h2, if_neg (by omega)]; rfl
theorem arity_range {k : Int} (h : 0 ≤ arity k) : 1 ≤ k ∧ k ≤ 22 := by
  unfold arity at h
  by_cases h1 : k ∈ none0
  · simp only [none0, List.mem_cons, List.not_mem_nil, or_false] at h1; omega
  · rw [if_neg h1] at h
    by_cases h2 : k ∈ twos
    · simp only [twos, List.mem_cons, List.not_mem_nil, or_false] at h2; omega
    · rw [if_neg h2] at h
      by_cases h3 : k < 1 ∨ 22 < k
      · rw [if_pos h3] at h; omega
      · omega
theorem kinds_range (k : Int) : (formKind k || regKind k) = true ↔ 1 ≤ k ∧ k ≤ 22 := by
  unfold formKind regKind
  simp only [Bool.or_eq_true, decide_eq_true_eq]
  omega
/-- The kinds of the nodes that were taken. -/
theorem upTo_kinds {l : List Nd} : ∀ (i : Nat) (st : List Nat), mayUpTo l i = some st → ∀ (j : Nat) (x : Nd), j < i → l[j]? = some x → 1 ≤ x.kind ∧ x.kind ≤ 22 := by
  intro i
  induction i with
  | zero => intro st _ j x hj; omega
  | succ i ih =>
    intro st h j x hj hx
    rw [mayUpTo] at h
    obtain ⟨s0, h1, h2⟩ := Option.bind_eq_some_iff.1 h
    by_cases e : j = i
    · subst e
      unfold mayStep at h2
      rw [hx] at h2
      simp only at h2
      split at h2
      · rename_i hc
        exact arity_range (shape_parts hc.1).1
      · cases h2
    · exact ih s0 h1 j x (by omega) hx
theorem fits_reg {k c : Int} (h : 1 ≤ c ∧ c ≤ 22) : fits k c = (regKind c == takesReg k) := by
  unfold fits takesReg regKind formKind
  by_cases h1 : k ∈ regs
  · rw [if_pos h1, decide_eq_true h1]
    by_cases h2 : c ≤ 17
    · rw [decide_eq_true (by omega), decide_eq_false (by omega)]; rfl
    · rw [decide_eq_false (by omega), decide_eq_true (by omega)]; rfl
  · rw [if_neg h1, decide_eq_false h1]
    by_cases h2 : c ≤ 17
    · rw [decide_eq_true (by omega), decide_eq_false (by omega)]; rfl
    · rw [decide_eq_false (by omega), decide_eq_true (by omega)]; rfl
/-- The kids of a node against the last open ones. -/
theorem okKids_iff {l : List Nd} {n : Nd} {ks : List Int} {ts : List Nat} (ht : ∀ t ∈ ts, ∃ x, l[t]? = some x ∧ 1 ≤ x.kind ∧ x.kind ≤ 22) :
    okKids l n ks ts = true ↔ ks = zints ts ∧ (ks.all fun k => regKind (kindAt l k) == takesReg n.kind) = true := by
  induction ks generalizing ts with
  | nil =>
    cases ts with
    | nil => simp [okKids, zints]
    | cons t ts => simp [okKids, zints]
  | cons k ks ih =>
    cases ts with
    | nil => simp [okKids, zints]
    | cons t ts =>
      obtain ⟨x, hx, hk⟩ := ht t List.mem_cons_self
      have hkid : okKid l n k t = true ↔ k = (t : Int) ∧ (regKind (kindAt l (t : Int)) == takesReg n.kind) = true := by
        unfold okKid kindAt
        rw [Int.toNat_natCast, hx, Option.map_some, Option.getD_some, fits_reg hk, Bool.and_eq_true, decide_eq_true_eq]
      have ih' := ih (ts := ts) fun t' ht' => ht t' (List.mem_cons_of_mem _ ht')
      simp only [okKids, Bool.and_eq_true, hkid, ih', zints, List.map_cons, List.cons.injEq, List.all_cons]
      constructor
      · rintro ⟨⟨rfl, h1⟩, h2, h3⟩; exact ⟨⟨rfl, h2⟩, h1, h3⟩
      · rintro ⟨⟨rfl, h2⟩, h1, h3⟩; exact ⟨⟨rfl, h1⟩, h2, h3⟩
theorem land_step {l : List Nd} {st : List Nat} {i : Nat} {n : Nd} (hu : mayUpTo l i = some st) (hi : l[i]? = some n) : mayStep l st i = landStep l st i n := by
  have hlt := (upTo_lt l i st hu).1
  have hkinds := upTo_kinds i st hu
  have hin : i < l.length := (List.getElem?_eq_some_iff.1 hi).1
  have hts : ∀ k, ∀ t ∈ st.drop k, ∃ x, l[t]? = some x ∧ 1 ≤ x.kind ∧ x.kind ≤ 22 := fun k t ht => by
    have h1 := hlt t (List.mem_of_mem_drop ht)
    have h2 : t < l.length := by omega
    exact ⟨l[t], List.getElem?_eq_getElem h2, hkinds t _ h1 (List.getElem?_eq_getElem h2)⟩
  unfold landStep
  by_cases h : kidc n.kind ≤ st.length ∧ n.kids = (zints st).drop (st.length - kidc n.kind) ∧ fieldsB n = true ∧ kidsB l n = true
  · rw [if_pos h]
    obtain ⟨h1, h2, h3, h4⟩ := h
    unfold fieldsB at h3
    rw [Bool.and_eq_true, Bool.and_eq_true, kinds_range] at h3
    obtain ⟨h5, h6, h7⟩ := h3
    have ha := kidc_arity h5
    have hkl : n.kids.length = kidc n.kind := by rw [h2, List.length_drop, zints, List.length_map]; omega
    have hsh : okShape n st.length = true := by
      refine shape_ok (by omega) (by rw [ha, hkl]) (by omega) ?_
      unfold nameOkB at h6
      by_cases h8 : n.kind = 3
      · rw [if_pos h8] at h6; exact Or.inl ⟨h8, h6⟩
      · rw [if_neg h8] at h6; exact Or.inr ⟨h8, of_decide_eq_true h6⟩
    have hz : (zints st).drop (st.length - kidc n.kind) = zints (st.drop (st.length - kidc n.kind)) := by unfold zints; rw [List.map_drop]
    have := step_some hi hsh h7 (by rw [hkl]; exact (okKids_iff (hts _)).2 ⟨by rw [h2, hz], h4⟩)
    rw [this, hkl]
  · rw [if_neg h]
    unfold mayStep
    rw [hi]
    simp only
    rw [if_neg]
    rintro ⟨h1, h2, h3⟩
    obtain ⟨a1, a2, a3, a4, a5⟩ := shape_parts h1
    have hr := arity_range a1
    have ha := kidc_arity hr
    have hkl : n.kids.length = kidc n.kind := by omega
    rw [hkl] at h3
    obtain ⟨b1, b2⟩ := (okKids_iff (hts _)).1 h3
    refine h ⟨by omega, by rw [b1]; unfold zints; rw [List.map_drop], ?_, b2⟩
    unfold fieldsB
    rw [(kinds_range _).2 hr, h2, Bool.true_and, Bool.and_true]
    unfold nameOkB
    by_cases h8 : n.kind = 3
    · rw [if_pos h8]; exact a4 h8
    · rw [if_neg h8]; exact decide_eq_true (a5 h8)
/-- A round that ends it. -/
theorem land_stop {l : List Nd} {st : List Nat} {i : Nat} {n : Nd} (hu : mayUpTo l i = some st) (hi : l[i]? = some n) (h : ¬ (kidc n.kind ≤ st.length ∧ n.kids = (zints st).drop (st.length - kidc n.kind) ∧ fieldsB n = true ∧ kidsB l n = true)) : mayL l = false :=
  may_stop hu (List.getElem?_eq_some_iff.1 hi).1 (by rw [land_step hu hi]; unfold landStep; rw [if_neg h])
theorem land_go {l : List Nd} {st : List Nat} {i : Nat} {n : Nd} (hu : mayUpTo l i = some st) (hi : l[i]? = some n) (h : kidc n.kind ≤ st.length ∧ n.kids = (zints st).drop (st.length - kidc n.kind) ∧ fieldsB n = true ∧ kidsB l n = true) : mayUpTo l (i + 1) = some (st.take (st.length - kidc n.kind) ++ [i]) :=
  may_go hu (by rw [land_step hu hi]; unfold landStep; rw [if_pos h])
end Go.Proofs.YtmjfopggehopjaaDoor.Tree
