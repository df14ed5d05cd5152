/-
  The walk of the reference's May. By an AI agent.
-/
import Derived.Test.YthcbgneoonekkaaDoorGShowNest5
import Derived.Test.YthcbgneoonekkaaDoorGShowNest4
import Derived.OwnWalk
import Derived.Deep.QuietTactic
import Derived.BigQuiet
namespace Go.Proofs.YthcbgneoonekkaaDoor.Tree
open Go.RowKit Go.Proofs.YthcbgneoonekkaaDoor.Ints

def zints (st : List Nat) : List Int := st.map fun x : Nat => (x : Int)
theorem zints_get (st : List Nat) (j : Nat) (t : Nat) (h : st[j]? = some t) : (zints st)[j]?.getD 0 = (t : Int) := by
  unfold zints
  rw [List.getElem?_map, h]; rfl
theorem zints_wf (st : List Nat) (n : Nat) (hn : n ≤ 1048576) (h : ∀ x ∈ st, x < n) : ∀ z ∈ zints st, (Lit.int .i64 z).wf = true := by
  intro z hz
  obtain ⟨x, hx, rfl⟩ := List.mem_map.1 hz
  have := h x hx
  exact WalkArith.wf_i64 (by omega)
theorem step_none {l : List Nd} {st : List Nat} {k : Nat} {nd : Nd} (hk : l[k]? = some nd) (h : okShape nd st.length = false ∨ okSpan nd = false ∨ okKids l nd nd.kids (st.drop (st.length - nd.kids.length)) = false) : mayStep l st k = none := by
  unfold mayStep
  rw [hk]
  simp only
  rw [if_neg]
  rintro ⟨h1, h2, h3⟩
  rcases h with h | h | h
  · rw [h] at h1; cases h1
  · rw [h] at h2; cases h2
  · rw [h] at h3; cases h3
theorem step_some {l : List Nd} {st : List Nat} {k : Nat} {nd : Nd} (hk : l[k]? = some nd) (h1 : okShape nd st.length = true) (h2 : okSpan nd = true) (h3 : okKids l nd nd.kids (st.drop (st.length - nd.kids.length)) = true) :
    mayStep l st k = some (st.take (st.length - nd.kids.length) ++ [k]) := by
  unfold mayStep
  rw [hk]
  simp only
  rw [if_pos ⟨h1, h2, h3⟩]
theorem shape_bad1 {n : Nd} {k : Nat} (h : arity n.kind < 0) : okShape n k = false := by
  unfold okShape; rw [decide_eq_false (by omega)]; rfl
theorem shape_bad2 {n : Nd} {k : Nat} (h : ¬ (n.kids.length : Int) = arity n.kind) : okShape n k = false := by
  unfold okShape; rw [decide_eq_false h]; simp
theorem shape_bad3 {n : Nd} {k : Nat} (h : ¬ arity n.kind ≤ k) : okShape n k = false := by
  unfold okShape; rw [decide_eq_false h]; simp
theorem shape_bad4 {n : Nd} {k : Nat} (h : n.kind = 3) (h2 : Lex.nameS n.name.data.toList = false) : okShape n k = false := by
  unfold okShape; rw [decide_eq_false (show ¬ n.kind ≠ 3 from fun x => x h), h2]; simp
theorem shape_bad5 {n : Nd} {k : Nat} (h : n.kind ≠ 3) (h2 : n.name.data.toList ≠ []) : okShape n k = false := by
  unfold okShape; rw [decide_eq_false h, decide_eq_false h2]; simp
theorem shape_ok {n : Nd} {k : Nat} (h1 : 0 ≤ arity n.kind) (h2 : (n.kids.length : Int) = arity n.kind) (h3 : arity n.kind ≤ k) (h4 : (n.kind = 3 ∧ Lex.nameS n.name.data.toList = true) ∨ (n.kind ≠ 3 ∧ n.name.data.toList = [])) : okShape n k = true := by
  unfold okShape
  rw [decide_eq_true h1, decide_eq_true h2, decide_eq_true h3]
  rcases h4 with ⟨h4, h5⟩ | ⟨h4, h5⟩
  · rw [h5, decide_eq_true h4]; simp
  · rw [decide_eq_true h4, decide_eq_true h5]; simp
theorem span_ok1 {n : Nd} (h : timed n.kind = true) (h2 : Ival.mayS n.lo n.hi = true) : okSpan n = true := by unfold okSpan; rw [if_pos h, h2]
theorem span_bad1 {n : Nd} (h : timed n.kind = true) (h2 : Ival.mayS n.lo n.hi = false) : okSpan n = false := by unfold okSpan; rw [if_pos h, h2]
theorem span_ok2 {n : Nd} (h : timed n.kind = false) (h2 : n.lo = 0 ∧ n.hi = 0) : okSpan n = true := by unfold okSpan; rw [if_neg (by rw [h]; decide), decide_eq_true h2]
theorem span_bad2 {n : Nd} (h : timed n.kind = false) (h2 : ¬ (n.lo = 0 ∧ n.hi = 0)) : okSpan n = false := by unfold okSpan; rw [if_neg (by rw [h]; decide), decide_eq_false h2]
theorem okKid_yes {l : List Nd} {n x : Nd} {k : Int} {t : Nat} (hx : l[t]? = some x) (h1 : k = (t : Int)) (h2 : fits n.kind x.kind = true) : okKid l n k t = true := by
  unfold okKid; rw [hx, decide_eq_true h1]; simpa using h2
theorem okKid_no1 {l : List Nd} {n : Nd} {k : Int} {t : Nat} (h1 : k ≠ (t : Int)) : okKid l n k t = false := by
  unfold okKid; rw [decide_eq_false h1]; rfl
theorem okKid_no2 {l : List Nd} {n x : Nd} {k : Int} {t : Nat} (hx : l[t]? = some x) (h2 : fits n.kind x.kind = false) : okKid l n k t = false := by
  unfold okKid; rw [hx]; simp [h2]
theorem okKids_upto {l : List Nd} {n : Nd} {ks : List Int} {ts : List Nat} (hl : ks.length = ts.length) (h : ∀ j, j < ks.length → ∀ k t, ks[j]? = some k → ts[j]? = some t → okKid l n k t = true) : okKids l n ks ts = true :=
  (okKids_at ks ts hl).2 fun j k t h1 h2 => h j (List.getElem?_eq_some_iff.1 h1).1 k t h1 h2

theorem zints_drop (st : List Nat) (j k : Nat) (t : Nat) (h : (st.drop k)[j]? = some t) : ((zints st).drop k)[j]?.getD 0 = (t : Int) := by
  unfold zints
  rw [← List.map_drop, List.getElem?_map, h]; rfl
theorem zints_next (st : List Nat) (j k : Nat) : ([] ++ (zints st).take j) ++ [(k : Int)] = zints (st.take j ++ [k]) := by
  unfold zints
  rw [List.nil_append, List.map_append, List.map_take]; rfl
/-- What a round of the kids' loop reads. -/
theorem kid_facts {l : List Nd} {n k m b off : Nat} {nd : Nd} {st : List Nat} {w : World} (hl : l.length = n) (hst : ∀ x ∈ st, x < k) (hk : k < n) (hm : m ≤ st.length) (hkids : nd.kids.length = m)
    (hn : ∀ (j : Nat) (x : Nd), l[j]? = some x → NodeAt Any w b (off + 5 * j) x) : ∀ j, j < m → ∃ (kj : Int) (tj : Nat) (x : Nd), nd.kids[j]? = some kj ∧ (st.drop (st.length - m))[j]? = some tj ∧
      nd.kids[j]?.getD 0 = kj ∧ ((zints st).drop (st.length - m))[j]?.getD 0 = (tj : Int) ∧ tj < n ∧ l[tj]? = some x ∧ w.cell? ⟨b, off + tj * 5, none⟩ = some (.int .i64 x.kind) := by
  intro j hj
  have h1 : j < nd.kids.length := by omega
  have h2 : j < (st.drop (st.length - m)).length := by rw [List.length_drop]; omega
  have e2 := List.getElem?_eq_getElem h2
  have h3 := hst _ (List.mem_of_mem_drop (List.getElem_mem h2))
  have h4 : (st.drop (st.length - m))[j] < l.length := by omega
  refine ⟨nd.kids[j], (st.drop (st.length - m))[j], l[(st.drop (st.length - m))[j]], List.getElem?_eq_getElem h1, e2, by rw [List.getElem?_eq_getElem h1]; rfl, zints_drop st j _ _ e2, by omega, List.getElem?_eq_getElem h4, ?_⟩
  have := (hn _ _ (List.getElem?_eq_getElem h4)).1
  rwa [Nat.mul_comm] at this

theorem own_next {w : World} {base : Nat} {e : TypeId} {v : Value} {st : List Nat} {m k : Nat} (h : w.ownsRow base e 1 v (0 + (st.length - m) + 1) (((([] : List Int) ++ (zints st).take (st.length - m)) ++ [(k : Int)]).map (Value.int .i64))) :
    w.ownsRow base e 1 v (st.take (st.length - m) ++ [k]).length ((zints (st.take (st.length - m) ++ [k])).map (Value.int .i64)) := by
  rw [zints_next] at h
  have e : (st.take (st.length - m) ++ [k]).length = 0 + (st.length - m) + 1 := by
    rw [List.length_append, List.length_take, List.length_singleton]; omega
  rw [e]; exact h
theorem may_below {B : Nat} {a w w1 w2 : World} {o1 o2 : Obj} {r1 r2 : Option Nat} (h : Below B a w) (hb : B ≤ w.heap.size) (h1 : (w.alloc o1).grownBy w1 r1) (h2 : (w1.alloc o2).grownBy w2 r2) (k1 : ∀ q, r1 = some q → B ≤ q) (k2 : ∀ q, r2 = some q → B ≤ q) : Below B a w2 := by
  have b1 := (h.alloc hb o1).grown h1 (le_alloc hb) k1
  have hs : B ≤ w1.heap.size := Nat.le_trans (le_alloc hb) h1.size
  exact (b1.alloc hs o2).grown h2 (le_alloc hs) k2

theorem infoInt : (Tryd.prog.info? 3).map (fun i => (i.zero, i.size, i.bytes)) = some (some (.int .i64 0), 1, 8) := by kernel_rfl
theorem sizeElemInts : (Tryd.prog.info? (Tryd.prog.elem 28)).map (·.size) = some 1 := by kernel_rfl
theorem typeInts : Tryd.prog.underlying 28 = some (.slice (Tryd.prog.elem 28)) := by kernel_rfl

end Go.Proofs.YthcbgneoonekkaaDoor.Tree
