/-
  The walk of the reference's May. By an AI agent.
  What calls leave that hand back nodes; kids moved. By an AI agent.
  The part of TreeBase that speaks of functions which not every seat has. By an AI agent.
-/
import Derived.Test.YtcpmcgbjmncalaaGPathsUnion5
import Derived.OwnWalk
import Derived.Deep.QuietTactic
import Derived.BigQuiet
import Derived.Test.YtcpmcgbjmncalaaGPathsUnion4
import Derived.Deep.RegionHeld
namespace Go.Proofs.Ytcpmcgbjmncalaa.Tree
open Go.RowKit Go.Proofs.Ytcpmcgbjmncalaa.Ints

def zints (st : List Nat) : List Int := st.map fun x : Nat => (x : Int)
theorem zints_wf (st : List Nat) (n : Nat) (hn : n ≤ 1048576) (h : ∀ x ∈ st, x < n) : ∀ z ∈ zints st, (Lit.int .i64 z).wf = true := by
  intro z hz
  obtain ⟨x, hx, rfl⟩ := List.mem_map.1 hz
  have := h x hx
  exact WalkArith.wf_i64 (by omega)
theorem step_none {l : List Nd} {st : List Nat} {k : Nat} {nd : Nd} (hk : l[k]? = some nd) (h : okShape nd st.length = false ∨ okSpan nd = false ∨ okKids l nd nd.kids (st.drop (st.length - nd.kids.length)) = false) : mayStep l st k = none := by
  unfold mayStep
  rw [hk]
  simp only
  rw [if_neg]
  rintro ⟨h1, h2, h3⟩
  rcases h with h | h | h
  · rw [h] at h1; cases h1
  · rw [h] at h2; cases h2
  · rw [h] at h3; cases h3
theorem step_some {l : List Nd} {st : List Nat} {k : Nat} {nd : Nd} (hk : l[k]? = some nd) (h1 : okShape nd st.length = true) (h2 : okSpan nd = true) (h3 : okKids l nd nd.kids (st.drop (st.length - nd.kids.length)) = true) :
    mayStep l st k = some (st.take (st.length - nd.kids.length) ++ [k]) := by
  unfold mayStep
  rw [hk]
  simp only
  rw [if_pos ⟨h1, h2, h3⟩]
theorem shape_bad1 {n : Nd} {k : Nat} (h : arity n.kind < 0) : okShape n k = false := by
  unfold okShape; rw [decide_eq_false (by omega)]; rfl
theorem shape_bad2 {n : Nd} {k : Nat} (h : ¬ (n.kids.length : Int) = arity n.kind) : okShape n k = false := by
  unfold okShape; rw [decide_eq_false h]; simp
theorem shape_bad3 {n : Nd} {k : Nat} (h : ¬ arity n.kind ≤ k) : okShape n k = false := by
  unfold okShape; rw [decide_eq_false h]; simp
theorem shape_bad4 {n : Nd} {k : Nat} (h : n.kind = 3) (h2 : Lex.nameS n.name.data.toList = false) : okShape n k = false := by
  unfold okShape; rw [decide_eq_false (show ¬ n.kind ≠ 3 from fun x => x h), h2]; simp
theorem shape_bad5 {n : Nd} {k : Nat} (h : n.kind ≠ 3) (h2 : n.name.data.toList ≠ []) : okShape n k = false := by
  unfold okShape; rw [decide_eq_false h, decide_eq_false h2]; simp
theorem shape_ok {n : Nd} {k : Nat} (h1 : 0 ≤ arity n.kind) (h2 : (n.kids.length : Int) = arity n.kind) (h3 : arity n.kind ≤ k) (h4 : (n.kind = 3 ∧ Lex.nameS n.name.data.toList = true) ∨ (n.kind ≠ 3 ∧ n.name.data.toList = [])) : okShape n k = true := by
  unfold okShape
  rw [decide_eq_true h1, decide_eq_true h2, decide_eq_true h3]
  rcases h4 with ⟨h4, h5⟩ | ⟨h4, h5⟩
  · rw [h5, decide_eq_true h4]; simp
  · rw [decide_eq_true h4, decide_eq_true h5]; simp
theorem span_ok1 {n : Nd} (h : timed n.kind = true) (h2 : Ival.mayS n.lo n.hi = true) : okSpan n = true := by unfold okSpan; rw [if_pos h, h2]
theorem span_bad1 {n : Nd} (h : timed n.kind = true) (h2 : Ival.mayS n.lo n.hi = false) : okSpan n = false := by unfold okSpan; rw [if_pos h, h2]
theorem span_ok2 {n : Nd} (h : timed n.kind = false) (h2 : n.lo = 0 ∧ n.hi = 0) : okSpan n = true := by unfold okSpan; rw [if_neg (by rw [h]; decide), decide_eq_true h2]
theorem span_bad2 {n : Nd} (h : timed n.kind = false) (h2 : ¬ (n.lo = 0 ∧ n.hi = 0)) : okSpan n = false := by unfold okSpan; rw [if_neg (by rw [h]; decide), decide_eq_false h2]
theorem okKid_yes {l : List Nd} {n x : Nd} {k : Int} {t : Nat} (hx : l[t]? = some x) (h1 : k = (t : Int)) (h2 : fits n.kind x.kind = true) : okKid l n k t = true := by
  unfold okKid; rw [hx, decide_eq_true h1]; simpa using h2
theorem okKid_no1 {l : List Nd} {n : Nd} {k : Int} {t : Nat} (h1 : k ≠ (t : Int)) : okKid l n k t = false := by
  unfold okKid; rw [decide_eq_false h1]; rfl
theorem okKid_no2 {l : List Nd} {n x : Nd} {k : Int} {t : Nat} (hx : l[t]? = some x) (h2 : fits n.kind x.kind = false) : okKid l n k t = false := by
  unfold okKid; rw [hx]; simp [h2]
theorem okKids_upto {l : List Nd} {n : Nd} {ks : List Int} {ts : List Nat} (hl : ks.length = ts.length) (h : ∀ j, j < ks.length → ∀ k t, ks[j]? = some k → ts[j]? = some t → okKid l n k t = true) : okKids l n ks ts = true :=
  (okKids_at ks ts hl).2 fun j k t h1 h2 => h j (List.getElem?_eq_some_iff.1 h1).1 k t h1 h2

theorem zints_drop (st : List Nat) (j k : Nat) (t : Nat) (h : (st.drop k)[j]? = some t) : ((zints st).drop k)[j]?.getD 0 = (t : Int) := by
  unfold zints
  rw [← List.map_drop, List.getElem?_map, h]; rfl
theorem zints_next (st : List Nat) (j k : Nat) : ([] ++ (zints st).take j) ++ [(k : Int)] = zints (st.take j ++ [k]) := by
  unfold zints
  rw [List.nil_append, List.map_append, List.map_take]; rfl
/-- What a round of the kids' loop reads. -/
theorem kid_facts {l : List Nd} {n k m b off : Nat} {nd : Nd} {st : List Nat} {w : World} (hl : l.length = n) (hst : ∀ x ∈ st, x < k) (hk : k < n) (hm : m ≤ st.length) (hkids : nd.kids.length = m)
    (hn : ∀ (j : Nat) (x : Nd), l[j]? = some x → NodeAt Any w b (off + 5 * j) x) : ∀ j, j < m → ∃ (kj : Int) (tj : Nat) (x : Nd), nd.kids[j]? = some kj ∧ (st.drop (st.length - m))[j]? = some tj ∧
      nd.kids[j]?.getD 0 = kj ∧ ((zints st).drop (st.length - m))[j]?.getD 0 = (tj : Int) ∧ tj < n ∧ l[tj]? = some x ∧ w.cell? ⟨b, off + tj * 5, none⟩ = some (.int .i64 x.kind) := by
  intro j hj
  have h1 : j < nd.kids.length := by omega
  have h2 : j < (st.drop (st.length - m)).length := by rw [List.length_drop]; omega
  have e2 := List.getElem?_eq_getElem h2
  have h3 := hst _ (List.mem_of_mem_drop (List.getElem_mem h2))
  have h4 : (st.drop (st.length - m))[j] < l.length := by omega
  refine ⟨nd.kids[j], (st.drop (st.length - m))[j], l[(st.drop (st.length - m))[j]], List.getElem?_eq_getElem h1, e2, by rw [List.getElem?_eq_getElem h1]; rfl, zints_drop st j _ _ e2, by omega, List.getElem?_eq_getElem h4, ?_⟩
  have := (hn _ _ (List.getElem?_eq_getElem h4)).1
  rwa [Nat.mul_comm] at this

theorem own_next {w : World} {base : Nat} {e : TypeId} {v : Value} {st : List Nat} {m k : Nat} (h : w.ownsRow base e 1 v (0 + (st.length - m) + 1) (((([] : List Int) ++ (zints st).take (st.length - m)) ++ [(k : Int)]).map (Value.int .i64))) :
    w.ownsRow base e 1 v (st.take (st.length - m) ++ [k]).length ((zints (st.take (st.length - m) ++ [k])).map (Value.int .i64)) := by
  rw [zints_next] at h
  have e : (st.take (st.length - m) ++ [k]).length = 0 + (st.length - m) + 1 := by
    rw [List.length_append, List.length_take, List.length_singleton]; omega
  rw [e]; exact h
theorem may_below {B : Nat} {a w w1 w2 : World} {o1 o2 : Obj} {r1 r2 : Option Nat} (h : Below B a w) (hb : B ≤ w.heap.size) (h1 : (w.alloc o1).grownBy w1 r1) (h2 : (w1.alloc o2).grownBy w2 r2) (k1 : ∀ q, r1 = some q → B ≤ q) (k2 : ∀ q, r2 = some q → B ≤ q) : Below B a w2 := by
  have b1 := (h.alloc hb o1).grown h1 (le_alloc hb) k1
  have hs : B ≤ w1.heap.size := Nat.le_trans (le_alloc hb) h1.size
  exact (b1.alloc hs o2).grown h2 (le_alloc hs) k2

theorem infoInt : (Try.prog.info? 3).map (fun i => (i.zero, i.size, i.bytes)) = some (some (.int .i64 0), 1, 8) := by kernel_rfl
theorem sizeElemInts : (Try.prog.info? (Try.prog.elem 27)).map (·.size) = some 1 := by kernel_rfl
theorem typeInts : Try.prog.underlying 27 = some (.slice (Try.prog.elem 27)) := by kernel_rfl

end Go.Proofs.Ytcpmcgbjmncalaa.Tree

namespace Go.Proofs.Ytcpmcgbjmncalaa.Tree
open Go.RowKit Go.Proofs.Ytcpmcgbjmncalaa.Ints

/-- What a call leaves that hands back nodes, in blocks of S. -/
def GotNodes (S : Nat → Prop) (w : World) (m : List Nd) (e : Ending) (w' : World) : Prop :=
  ∃ A c, e = .returned (.slice A m.length c) ∧ Nodes S w' A m ∧ m.length ≤ c ∧ c ≤ maxLen ∧ Below w.heap.size w w'
theorem GotNodes.none0 {S : Nat → Prop} {w w' : World} (hb : Below w.heap.size w w') : GotNodes S w [] (.returned (.slice none 0 0)) w' := ⟨none, 0, rfl, Nodes.nil _ _ _, Nat.le_refl _, by decide, hb⟩
theorem GotNodes.own {S : Nat → Prop} {w w' : World} {base : Nat} {v : Value} {σ : List SNd} {m : List Nd} (h : OwnNodes S w' base v σ) (hm : σ.map (·.1) = m) (hS : ∀ b, base ≤ b → b < w'.heap.size → S b) (hb : Below w.heap.size w w') : GotNodes S w m (.returned v) w' := by
  obtain ⟨A, c, rfl, h2, h3, h4⟩ := h.reads hS
  subst hm
  exact ⟨A, c, by rw [List.length_map], h2, by rw [List.length_map]; exact h3, h4, hb⟩
theorem GotNodes.mono {S S' : Nat → Prop} {w : World} {m : List Nd} {e : Ending} {w' : World} (h : GotNodes S w m e w') (hs : ∀ b, b < w'.heap.size → S b → S' b) : GotNodes S' w m e w' := by
  obtain ⟨A, c, h1, h2, h3⟩ := h
  exact ⟨A, c, h1, h2.mono hs, h3⟩

/-- Kids in a row of one's own, under a node. -/
theorem kid_own {S : Nat → Prop} {w : World} {base : Nat} {kv : Value} {ks : List Int} {nd : Nd} (h : w.ownsRow base 3 1 kv ks.length (ks.map (Value.int .i64))) (hz : ∀ z ∈ ks, (Lit.int .i64 z).wf = true)
    (s0 : small64 nd.kind) (s2 : small64 nd.lo) (s3 : small64 nd.hi) (s1 : nd.name.size ≤ maxLen) (hS : ∀ b, base ≤ b → S b) : ∃ K c, kv = .slice K ks.length c ∧ KidOk S w ({ nd with kids := ks }, K, c) := by
  obtain ⟨K, c, rfl, h1, h2, -, h4⟩ := own_slice h
  exact ⟨K, c, rfl, ⟨s0, s2, s3, s1, Rd.own h hz, h1, h2⟩, fun a e _ => hS _ (h4 a e).1⟩
theorem KidOk.setCell {S : Nat → Prop} {w : World} {s : SNd} (h : KidOk S w s) (p : Addr) (u : Value) (hp : ∀ b, S b → p.block ≠ b) : KidOk S (w.setCell p u) s :=
  h.keep fun q _ hq hc => (World.cell?_setCell_far w p q u (hp _ hq)).trans hc
theorem wf_moved {ks : List Int} {d B : Int} (h : ∀ k ∈ ks, 0 ≤ k ∧ k < B) (hd : -B ≤ d ∧ d ≤ B) (hB : B ≤ 1048576) : ∀ z ∈ ks.map (· + d), (Lit.int .i64 z).wf = true := by
  intro z hz
  obtain ⟨k, hk, rfl⟩ := List.mem_map.1 hz
  have := h k hk
  exact WalkArith.wf_i64 (by omega)
theorem kid_cells {nd : Nd} {ks : List Int} {K : Option Addr} {c m : Nat} (h : ks.length = m) : cellsS ({ nd with kids := ks }, K, c) = [.int .i64 nd.kind, .string nd.name, .int .i64 nd.lo, .int .i64 nd.hi, .slice K m c] := by
  subst h; rfl
theorem moved_next (ks : List Int) (j t : Nat) (d : Int) (h : ks.take (j + 1) = ks.take j ++ [(t : Int)]) : ((ks.take j).map (· + d)) ++ [(t : Int) + d] = (ks.take (j + 1)).map (· + d) := by
  rw [h, List.map_append]; rfl
end Go.Proofs.Ytcpmcgbjmncalaa.Tree

namespace Go.Proofs.Ytcpmcgbjmncalaa.Tree
open Go.RowKit
theorem refFormKind (k : Int) (w : World) :
    Calls Try.prog 52 #[.int .i64 k] w fun e w' => e = .returned (.bool (formKind k)) ∧ w' = w := by
  have h : formKind k = (decide (1 ≤ k) && decide (k ≤ 17)) := Bool.decide_and _ _
  rw [h]
  by_cases h1 : 1 ≤ k
  all_goals
    go_enter Try.func52, Try.ntmps52
    go_wp2
    go_ret
    exact ⟨by first | (simp [h1]; done) | (simp; omega), rfl⟩
theorem refTimed (k : Int) (w : World) :
    Calls Try.prog 71 #[.int .i64 k] w fun e w' => e = .returned (.bool (timed k)) ∧ w' = w := by
  have h : timed k = (decide (8 ≤ k) && decide (k ≤ 17)) := Bool.decide_and _ _
  rw [h]
  by_cases h1 : 8 ≤ k
  all_goals
    go_enter Try.func71, Try.ntmps71
    go_wp2
    go_ret
    exact ⟨by first | (simp [h1]; done) | (simp; omega), rfl⟩

set_option maxHeartbeats 2000000 in
theorem refArity (k : Int) (w : World) :
    Calls Try.prog 69 #[.int .i64 k] w fun e w' => e = .returned (.int .i64 (arity k)) ∧ w' = w := by
  rcases arity_ways k with h | h | ⟨a1, a2, a3, a4, a5, a6, a7, a8, a9, a10, a11, h⟩
  · rcases h with rfl | rfl | rfl | rfl
    all_goals
      go_enter Try.func69, Try.ntmps69
      go_wp2
      go_ret
      exact ⟨rfl, rfl⟩
  · rcases h with rfl | rfl | rfl | rfl | rfl | rfl | rfl
    all_goals
      go_enter Try.func69, Try.ntmps69
      go_wp2
      go_ret
      exact ⟨rfl, rfl⟩
  · by_cases h1 : k < 1
    · rw [h, if_pos (Or.inl h1)]
      clear h
      go_enter Try.func69, Try.ntmps69
      go_wp2
      go_ret
      exact ⟨rfl, rfl⟩
    · by_cases h2 : 22 < k
      · rw [h, if_pos (Or.inr h2)]
        clear h
        go_enter Try.func69, Try.ntmps69
        go_wp2
        go_ret
        exact ⟨rfl, rfl⟩
      · rw [h, if_neg (by omega)]
        have h1' : decide (k < 1) = false := decide_eq_false h1
        have h2' : decide (22 < k) = false := decide_eq_false h2
        clear h
        go_enter Try.func69, Try.ntmps69
        go_wp2
        go_ret
        exact ⟨rfl, rfl⟩

theorem refFits (k c : Int) (w : World) :
    Calls Try.prog 73 #[.int .i64 k, .int .i64 c] w fun e w' => e = .returned (.bool (fits k c)) ∧ w' = w := by
  have hF := fun W => refFormKind c W
  by_cases h : k = 16 ∨ k = 17 ∨ k = 20 ∨ k = 21 ∨ k = 22
  · have e : fits k c = !(formKind c) := by
      unfold fits
      rw [if_pos (by simp only [regs, List.mem_cons, List.not_mem_nil, or_false]; exact h)]
    rw [e]
    obtain ⟨b, hb⟩ : ∃ b, formKind c = b := ⟨_, rfl⟩
    rw [hb] at hF ⊢
    have HF := Lib.hid hF
    clear hF hb e
    rcases h with rfl | rfl | rfl | rfl | rfl
    all_goals
      go_enter Try.func73, Try.ntmps73
      go_wp2_with (go_at_call 52; refine (HF.out _).mono ?_; rintro e w' ⟨rfl, rfl⟩)
      go_ret
      exact ⟨rfl, rfl⟩
  · have e : fits k c = formKind c := by
      unfold fits
      rw [if_neg (by simp only [regs, List.mem_cons, List.not_mem_nil, or_false]; exact h)]
    rw [e]
    have a1 : (k == 16) = false := beq_eq_false_iff_ne.2 (by omega)
    have a2 : (k == 17) = false := beq_eq_false_iff_ne.2 (by omega)
    have a3 : (k == 20) = false := beq_eq_false_iff_ne.2 (by omega)
    have a4 : (k == 21) = false := beq_eq_false_iff_ne.2 (by omega)
    have a5 : (k == 22) = false := beq_eq_false_iff_ne.2 (by omega)
    obtain ⟨b, hb⟩ : ∃ b, formKind c = b := ⟨_, rfl⟩
    rw [hb] at hF ⊢
    have HF := Lib.hid hF
    clear hF hb e h
    go_enter Try.func73, Try.ntmps73
    go_wp2_with (go_at_call 52; refine (HF.out _).mono ?_; rintro e w' ⟨rfl, rfl⟩)
    go_ret
    exact ⟨rfl, rfl⟩
end Go.Proofs.Ytcpmcgbjmncalaa.Tree
