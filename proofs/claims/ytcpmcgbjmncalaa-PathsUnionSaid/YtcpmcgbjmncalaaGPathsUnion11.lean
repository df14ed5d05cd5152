/-
  The reference's reach, node by node: two kids, one after the other (stage 14). By an AI agent.
  The reference's reach, node by node: any number of times (stage 14). By an AI agent.
  The reference's reach, node by node: one of two kids (stage 14). By an AI agent.
  The reference's reach, every node (stage 14). By an AI agent.
  The reference's Reach (stage 14). By an AI agent.
  What a list of nodes that may be asks, as plain functions. By an AI agent.
-/
import Derived.Test.YtcpmcgbjmncalaaGPathsUnion10
import Derived.Test.YtcpmcgbjmncalaaGPathsUnion3
import Derived.Test.YtcpmcgbjmncalaaGPathsUnion5
import Derived.Test.YtcpmcgbjmncalaaGPathsUnion6
namespace Go.Proofs.Ytcpmcgbjmncalaa.Paths
open Go.RowKit Go.Proofs.Ytcpmcgbjmncalaa.Ints Go.Proofs.Ytcpmcgbjmncalaa.Mem Go.Proofs.Ytcpmcgbjmncalaa.Src Go.Proofs.Ytcpmcgbjmncalaa.Tree Go.Proofs.Ytcpmcgbjmncalaa.BitsWalks Go.Proofs.Ytcpmcgbjmncalaa.RdW

theorem RIn.below {w w' : World} {A : Option Addr} {n : Nat} {l : List Nd} {T : Option Addr} {nt : Nat} {ts : List Int} {V : Option Addr} {nv : Nat} {vs : Nat → List Nat} (h : RIn w A n l T nt ts V nv vs) (hb : Below w.heap.size w w') : RIn w' A n l T nt ts V nv vs :=
  ⟨h.nodes.below hb, h.may, h.len, h.small, Rd.below h.tests hb, h.nts, h.vals.below hb, h.nvs⟩
theorem kid_len {l : List Nd} (h : mayL l = true) {i : Nat} {nd : Nd} (hi : l[i]? = some nd) : (nd.kids.length : Int) = arity nd.kind := by
  obtain ⟨st, -, h2, -, -⟩ := may_node h hi
  exact (shape_parts h2).2.1
theorem kidN_at {l : List Nd} {i : Nat} {nd : Nd} (hi : l[i]? = some nd) (j : Nat) : kidN l i j = (nd.kids[j]?.getD 0).toNat := by
  unfold kidN
  rw [hi]
  rfl
/-- The cells of a node and of its kids, in every later world. -/
theorem node_kids {w : World} {A : Option Addr} {n : Nat} {l : List Nd} {T : Option Addr} {nt : Nat} {ts : List Int} {V : Option Addr} {nv : Nat} {vs : Nat → List Nat} (h : RIn w A n l T nt ts V nv vs) {at_ : Nat} (hat : at_ < n) {m : Nat} (hm : arity (kindN l at_) = (m : Nat)) (h0 : 0 < m) :
    ∃ (b off : Nat) (nd : Nd) (Kb ko cK : Nat), A = some ⟨b, off, none⟩ ∧ nd.kind = kindN l at_ ∧ m ≤ cK ∧ (∀ j, j < m → kidN l at_ j < at_) ∧ ∀ W, Below w.heap.size w W →
      W.cell? ⟨b, off + at_ * 5, none⟩ = some (.int .i64 nd.kind) ∧ W.cell? ⟨b, off + at_ * 5 + 1, none⟩ = some (.string nd.name) ∧ W.cell? ⟨b, off + at_ * 5 + 2, none⟩ = some (.int .i64 nd.lo) ∧ W.cell? ⟨b, off + at_ * 5 + 3, none⟩ = some (.int .i64 nd.hi) ∧
      W.cell? ⟨b, off + at_ * 5 + 4, none⟩ = some (.slice (some ⟨Kb, ko, none⟩) m cK) ∧ ∀ j, j < m → W.cell? ⟨Kb, ko + j, none⟩ = some (.int .i64 ((kidN l at_ j : Nat) : Int)) := by
  have hl := h.len
  obtain ⟨b, off, rfl, hns⟩ := h.nodes (by omega)
  obtain ⟨nd, hnd⟩ : ∃ nd, l[at_]? = some nd := ⟨_, List.getElem?_eq_getElem (by omega)⟩
  have hkl := kid_len h.may hnd
  rw [← kind_of hnd, hm] at hkl
  obtain ⟨x0, x1, x2, x3, s0, s2, s3, s1, K, cK, x4, xr, hc, -⟩ := hns at_ nd hnd
  rw [Nat.mul_comm 5 at_] at x0 x1 x2 x3 x4
  obtain rfl : nd.kids.length = m := by omega
  obtain ⟨Kb, ko, rfl, hcs⟩ := Rd.cell xr h0
  have hkid : ∀ j, j < nd.kids.length → nd.kids[j]?.getD 0 = ((kidN l at_ j : Nat) : Int) ∧ kidN l at_ j < at_ := fun j hj => by
    obtain ⟨t, ht, hlt, -⟩ := kid_nat h.may hnd hj
    rw [kidN_at hnd, ht]
    exact ⟨by simp, by simpa using hlt⟩
  refine ⟨b, off, nd, Kb, ko, cK, rfl, (kind_of hnd).symm, hc, fun j hj => (hkid j hj).2, fun W hb => ⟨Mem.below_cell hb x0, Mem.below_cell hb x1, Mem.below_cell hb x2, Mem.below_cell hb x3, Mem.below_cell hb x4, fun j hj => ?_⟩⟩
  have h2 := hcs j hj
  rw [(hkid j hj).1] at h2
  exact Mem.below_cell hb h2
theorem Tab.down {w : World} {lo lo' B : Nat} {R : Nat → Nat} {n : Nat} {m : Tb} (h : Tab w lo B R n m) (hlo : lo' ≤ lo) : Tab w lo' B R n m := by
  have go : ∀ {e : TypeId} {r : Nat} {xs : List Value}, w.ownsRow lo e 1 (.slice (some ⟨r, 0, none⟩) n n) n xs → w.ownsRow lo' e 1 (.slice (some ⟨r, 0, none⟩) n n) n xs := fun h => by
    refine ⟨h.1, ?_⟩
    rcases h.2 with h2 | ⟨g, cap, cur, e1, h4, h5, h6⟩
    · exact .inl h2
    · exact .inr ⟨g, cap, cur, e1, Nat.le_trans hlo h4, h5, h6⟩
  exact ⟨go h.out, fun i hi => go (h.row i hi), h.off⟩
end Go.Proofs.Ytcpmcgbjmncalaa.Paths

namespace Go.Proofs.Ytcpmcgbjmncalaa.Paths
open Go.RowKit Go.Proofs.Ytcpmcgbjmncalaa.Ints Go.Proofs.Ytcpmcgbjmncalaa.Mem Go.Proofs.Ytcpmcgbjmncalaa.Src Go.Proofs.Ytcpmcgbjmncalaa.Tree Go.Proofs.Ytcpmcgbjmncalaa.BitsWalks Go.Proofs.Ytcpmcgbjmncalaa.RdW

end Go.Proofs.Ytcpmcgbjmncalaa.Paths

namespace Go.Proofs.Ytcpmcgbjmncalaa.Paths
open Go.RowKit Go.Proofs.Ytcpmcgbjmncalaa.Ints Go.Proofs.Ytcpmcgbjmncalaa.Mem Go.Proofs.Ytcpmcgbjmncalaa.Src Go.Proofs.Ytcpmcgbjmncalaa.Tree Go.Proofs.Ytcpmcgbjmncalaa.BitsWalks Go.Proofs.Ytcpmcgbjmncalaa.RdW

end Go.Proofs.Ytcpmcgbjmncalaa.Paths

namespace Go.Proofs.Ytcpmcgbjmncalaa.Paths
open Go.RowKit Go.Proofs.Ytcpmcgbjmncalaa.Ints Go.Proofs.Ytcpmcgbjmncalaa.Mem Go.Proofs.Ytcpmcgbjmncalaa.Src Go.Proofs.Ytcpmcgbjmncalaa.Tree Go.Proofs.Ytcpmcgbjmncalaa.BitsWalks Go.Proofs.Ytcpmcgbjmncalaa.RdW

end Go.Proofs.Ytcpmcgbjmncalaa.Paths

namespace Go.Proofs.Ytcpmcgbjmncalaa.Paths
open Go.RowKit Go.Proofs.Ytcpmcgbjmncalaa.Ints Go.Proofs.Ytcpmcgbjmncalaa.Mem Go.Proofs.Ytcpmcgbjmncalaa.Src Go.Proofs.Ytcpmcgbjmncalaa.Tree Go.Proofs.Ytcpmcgbjmncalaa.BitsWalks Go.Proofs.Ytcpmcgbjmncalaa.RdW

/-- Numbers of nodes as the walks hold them. -/
def idxI (l : List Nat) : List Int := l.map fun i => ((i : Nat) : Int)
/-- From where to where a way of a regular expression goes, of nv points. -/
def tableR (l : List Nd) (vs : Nat → List Nat) (nv : Nat) : Tb := reachT (rxOf l (idxI (placesR l 19)) vs) nv l.length (l.length - 1)
/-- What a call that hands back a table leaves: none where the nodes are no regular expression. -/
def GotR (w : World) (reg : Bool) (nv : Nat) (m : Tb) (e : Ending) (w' : World) : Prop := if reg = true then GotTab w nv m e w' else e = .returned (.slice none 0 0) ∧ Below w.heap.size w w'
theorem gotR_yes {reg : Bool} (h : reg = true) (w : World) (nv : Nat) (m : Tb) : GotR w reg nv m = GotTab w nv m := by funext e w'; unfold GotR; rw [if_pos h]
theorem gotR_no {reg : Bool} (h : ¬ reg = true) (w : World) (nv : Nat) (m : Tb) : GotR w reg nv m = fun e w' => e = .returned (.slice none 0 0) ∧ Below w.heap.size w w' := by funext e w'; unfold GotR; rw [if_neg h]
theorem places_len (l : List Nd) (kd : Int) : (placesR l kd).length ≤ l.length := by
  unfold placesR placesL
  split
  · have := List.length_filter_le (fun i => decide (kindN l i = kd) && !insideB l i) (List.range l.length)
    rwa [List.length_range] at this
  · exact Nat.zero_le _
end Go.Proofs.Ytcpmcgbjmncalaa.Paths

/- What the landed program asks of a list of nodes, as plain functions; it is what may be. By an AI agent. -/
namespace Go.Proofs.Ytcpmcgbjmncalaa.Tree
open Go.RowKit

/-- As many kids as a kind takes: one, where it is none. -/
def kidc (k : Int) : Nat := if k ∈ none0 then 0 else if k ∈ twos then 2 else 1
def regKind (k : Int) : Bool := decide (18 ≤ k ∧ k ≤ 22)
def takesReg (k : Int) : Bool := decide (k ∈ regs)
def nameOkB (n : Nd) : Bool := if n.kind = 3 then Lex.nameS n.name.data.toList else decide (n.name.data.toList = [])
def fieldsB (n : Nd) : Bool := (formKind n.kind || regKind n.kind) && (nameOkB n && okSpan n)
def kindAt (l : List Nd) (k : Int) : Int := (l[k.toNat]?.map (·.kind)).getD 0
def kidsB (l : List Nd) (n : Nd) : Bool := n.kids.all fun k => regKind (kindAt l k) == takesReg n.kind
def landStep (l : List Nd) (st : List Nat) (i : Nat) (n : Nd) : Option (List Nat) :=
  if kidc n.kind ≤ st.length ∧ n.kids = (zints st).drop (st.length - kidc n.kind) ∧ fieldsB n = true ∧ kidsB l n = true then some (st.take (st.length - kidc n.kind) ++ [i]) else none

theorem kidc_arity {k : Int} (h : 1 ≤ k ∧ k ≤ 22) : arity k = (kidc k : Int) := by
  unfold arity kidc
  by_cases h1 : k ∈ none0
  · rw [if_pos h1, if_pos h1]; rfl
  · rw [if_neg h1, if_neg h1]
    by_cases h2 : k ∈ twos
    · rw [if_pos h2, if_pos h2]; rfl
    · rw [if_neg h2, if_neg h2, if_neg (by omega)]; rfl
theorem arity_range {k : Int} (h : 0 ≤ arity k) : 1 ≤ k ∧ k ≤ 22 := by
  unfold arity at h
  by_cases h1 : k ∈ none0
  · simp only [none0, List.mem_cons, List.not_mem_nil, or_false] at h1; omega
  · rw [if_neg h1] at h
    by_cases h2 : k ∈ twos
    · simp only [twos, List.mem_cons, List.not_mem_nil, or_false] at h2; omega
    · rw [if_neg h2] at h
      by_cases h3 : k < 1 ∨ 22 < k
      · rw [if_pos h3] at h; omega
      · omega
theorem kinds_range (k : Int) : (formKind k || regKind k) = true ↔ 1 ≤ k ∧ k ≤ 22 := by
  unfold formKind regKind
  simp only [Bool.or_eq_true, decide_eq_true_eq]
  omega
/-- The kinds of the nodes that were taken. -/
theorem upTo_kinds {l : List Nd} : ∀ (i : Nat) (st : List Nat), mayUpTo l i = some st → ∀ (j : Nat) (x : Nd), j < i → l[j]? = some x → 1 ≤ x.kind ∧ x.kind ≤ 22 := by
  intro i
  induction i with
  | zero => intro st _ j x hj; omega
  | succ i ih =>
    intro st h j x hj hx
    rw [mayUpTo] at h
    obtain ⟨s0, h1, h2⟩ := Option.bind_eq_some_iff.1 h
    by_cases e : j = i
    · subst e
      unfold mayStep at h2
      rw [hx] at h2
      simp only at h2
      split at h2
      · rename_i hc
        exact arity_range (shape_parts hc.1).1
      · cases h2
    · exact ih s0 h1 j x (by omega) hx
theorem fits_reg {k c : Int} (h : 1 ≤ c ∧ c ≤ 22) : fits k c = (regKind c == takesReg k) := by
  unfold fits takesReg regKind formKind
  by_cases h1 : k ∈ regs
  · rw [if_pos h1, decide_eq_true h1]
    by_cases h2 : c ≤ 17
    · rw [decide_eq_true (by omega), decide_eq_false (by omega)]; rfl
    · rw [decide_eq_false (by omega), decide_eq_true (by omega)]; rfl
  · rw [if_neg h1, decide_eq_false h1]
    by_cases h2 : c ≤ 17
    · rw [decide_eq_true (by omega), decide_eq_false (by omega)]; rfl
    · rw [decide_eq_false (by omega), decide_eq_true (by omega)]; rfl
/-- The kids of a node against the last open ones. -/
theorem okKids_iff {l : List Nd} {n : Nd} {ks : List Int} {ts : List Nat} (ht : ∀ t ∈ ts, ∃ x, l[t]? = some x ∧ 1 ≤ x.kind ∧ x.kind ≤ 22) :
    okKids l n ks ts = true ↔ ks = zints ts ∧ (ks.all fun k => regKind (kindAt l k) == takesReg n.kind) = true := by
  induction ks generalizing ts with
  | nil =>
    cases ts with
    | nil => simp [okKids, zints]
    | cons t ts => simp [okKids, zints]
  | cons k ks ih =>
    cases ts with
    | nil => simp [okKids, zints]
    | cons t ts =>
      obtain ⟨x, hx, hk⟩ := ht t List.mem_cons_self
      have hkid : okKid l n k t = true ↔ k = (t : Int) ∧ (regKind (kindAt l (t : Int)) == takesReg n.kind) = true := by
        unfold okKid kindAt
        rw [Int.toNat_natCast, hx, Option.map_some, Option.getD_some, fits_reg hk, Bool.and_eq_true, decide_eq_true_eq]
      have ih' := ih (ts := ts) fun t' ht' => ht t' (List.mem_cons_of_mem _ ht')
      simp only [okKids, Bool.and_eq_true, hkid, ih', zints, List.map_cons, List.cons.injEq, List.all_cons]
      constructor
      · rintro ⟨⟨rfl, h1⟩, h2, h3⟩; exact ⟨⟨rfl, h2⟩, h1, h3⟩
      · rintro ⟨⟨rfl, h2⟩, h1, h3⟩; exact ⟨⟨rfl, h1⟩, h2, h3⟩
theorem land_step {l : List Nd} {st : List Nat} {i : Nat} {n : Nd} (hu : mayUpTo l i = some st) (hi : l[i]? = some n) : mayStep l st i = landStep l st i n := by
  have hlt := (upTo_lt l i st hu).1
  have hkinds := upTo_kinds i st hu
  have hin : i < l.length := (List.getElem?_eq_some_iff.1 hi).1
  have hts : ∀ k, ∀ t ∈ st.drop k, ∃ x, l[t]? = some x ∧ 1 ≤ x.kind ∧ x.kind ≤ 22 := fun k t ht => by
    have h1 := hlt t (List.mem_of_mem_drop ht)
    have h2 : t < l.length := by omega
    exact ⟨l[t], List.getElem?_eq_getElem h2, hkinds t _ h1 (List.getElem?_eq_getElem h2)⟩
  unfold landStep
  by_cases h : kidc n.kind ≤ st.length ∧ n.kids = (zints st).drop (st.length - kidc n.kind) ∧ fieldsB n = true ∧ kidsB l n = true
  · rw [if_pos h]
    obtain ⟨h1, h2, h3, h4⟩ := h
    unfold fieldsB at h3
    rw [Bool.and_eq_true, Bool.and_eq_true, kinds_range] at h3
    obtain ⟨h5, h6, h7⟩ := h3
    have ha := kidc_arity h5
    have hkl : n.kids.length = kidc n.kind := by rw [h2, List.length_drop, zints, List.length_map]; omega
    have hsh : okShape n st.length = true := by
      refine shape_ok (by omega) (by rw [ha, hkl]) (by omega) ?_
      unfold nameOkB at h6
      by_cases h8 : n.kind = 3
      · rw [if_pos h8] at h6; exact Or.inl ⟨h8, h6⟩
      · rw [if_neg h8] at h6; exact Or.inr ⟨h8, of_decide_eq_true h6⟩
    have hz : (zints st).drop (st.length - kidc n.kind) = zints (st.drop (st.length - kidc n.kind)) := by unfold zints; rw [List.map_drop]
    have := step_some hi hsh h7 (by rw [hkl]; exact (okKids_iff (hts _)).2 ⟨by rw [h2, hz], h4⟩)
    rw [this, hkl]
  · rw [if_neg h]
    unfold mayStep
    rw [hi]
    simp only
    rw [if_neg]
    rintro ⟨h1, h2, h3⟩
    obtain ⟨a1, a2, a3, a4, a5⟩ := shape_parts h1
    have hr := arity_range a1
    have ha := kidc_arity hr
    have hkl : n.kids.length = kidc n.kind := by omega
    rw [hkl] at h3
    obtain ⟨b1, b2⟩ := (okKids_iff (hts _)).1 h3
    refine h ⟨by omega, by rw [b1]; unfold zints; rw [List.map_drop], ?_, b2⟩
    unfold fieldsB
    rw [(kinds_range _).2 hr, h2, Bool.true_and, Bool.and_true]
    unfold nameOkB
    by_cases h8 : n.kind = 3
    · rw [if_pos h8]; exact a4 h8
    · rw [if_neg h8]; exact decide_eq_true (a5 h8)
/-- A round that ends it. -/
theorem land_stop {l : List Nd} {st : List Nat} {i : Nat} {n : Nd} (hu : mayUpTo l i = some st) (hi : l[i]? = some n) (h : ¬ (kidc n.kind ≤ st.length ∧ n.kids = (zints st).drop (st.length - kidc n.kind) ∧ fieldsB n = true ∧ kidsB l n = true)) : mayL l = false :=
  may_stop hu (List.getElem?_eq_some_iff.1 hi).1 (by rw [land_step hu hi]; unfold landStep; rw [if_neg h])
theorem land_go {l : List Nd} {st : List Nat} {i : Nat} {n : Nd} (hu : mayUpTo l i = some st) (hi : l[i]? = some n) (h : kidc n.kind ≤ st.length ∧ n.kids = (zints st).drop (st.length - kidc n.kind) ∧ fieldsB n = true ∧ kidsB l n = true) : mayUpTo l (i + 1) = some (st.take (st.length - kidc n.kind) ++ [i]) :=
  may_go hu (by rw [land_step hu hi]; unfold landStep; rw [if_pos h])
end Go.Proofs.Ytcpmcgbjmncalaa.Tree
