/-
  The places of a regular expression's graph, point by point from the last one on, find just the ways (stage 14). By an AI agent.
-/
import Derived.Test.YtcpmcgbjmncalaaGPathsUnion13
namespace Go.Proofs.Ytcpmcgbjmncalaa.Paths

/-- There is a way of an expression whose tests are numbered from k on, of n points; ps i t: test t holds at point i. -/
def wayR (ps : Nat → Nat → Prop) (n : Nat) : RE → Nat → Nat → Nat → Prop
  | .step, _, i, j => j = i + 1 ∧ j < n
  | .test _, k, i, j => j = i ∧ i < n ∧ ps i k
  | .alt a b, k, i, j => wayR ps n a k i j ∨ wayR ps n b (k + nts a) i j
  | .seq a b, k, i, j => ∃ m, wayR ps n a k i m ∧ wayR ps n b (k + nts a) m j
  | .many a, k, i, j => i < n ∧ Chain (wayR ps n a k) i j
  | .no, _, _, _ => False
theorem chain_on {n : Nat} {R : Nat → Nat → Prop} (hR : On n R) {i j : Nat} (h : Chain R i j) (hi : i < n) : j < n := h.elim fun _ h => chainN_on hR h hi
theorem wayR_on (ps : Nat → Nat → Prop) (n : Nat) : ∀ (x : RE) (k : Nat), On n (wayR ps n x k) := by
  intro x
  induction x with
  | no => intro k i j h; exact h.elim
  | step => intro k i j h; exact ⟨by have := h.1; have := h.2; omega, h.2⟩
  | test x => intro k i j h; exact ⟨h.2.1, by have := h.1; have := h.2.1; omega⟩
  | alt a b iha ihb => intro k i j h; exact h.elim (iha k i j) (ihb _ i j)
  | seq a b iha ihb => intro k i j h; exact h.elim fun m h => ⟨(iha k i m h.1).1, (ihb _ m j h.2).2⟩
  | many a iha => intro k i j h; exact ⟨h.1, chain_on (iha k) h.2 h.1⟩
/-- Which numbers an edge may bear at a point. -/
def okI (ps : Nat → Nat → Prop) (i : Nat) (t : Int) : Prop := t = -1 ∨ ∃ k : Nat, t = (k : Int) ∧ ps i k
theorem okI_none (ps : Nat → Nat → Prop) (i : Nat) : okI ps i (-1) := .inl rfl
theorem okI_test (ps : Nat → Nat → Prop) (i k : Nat) : okI ps i (k : Int) ↔ ps i k := by
  constructor
  · rintro (h | ⟨q, h, hp⟩)
    · omega
    · obtain rfl : k = q := by omega
      exact hp
  · exact fun h => .inr ⟨k, rfl, h⟩
/-- What abides all edges of an expression. -/
def Abides (ps : Nat → Nat → Prop) (n : Nat) (st sp : List Ed) (V : Nat → Nat → Prop) : Prop :=
  (∀ e ∈ st, ∀ i, i < n → okI ps i e.2.2 → V e.2.1 i → V e.1 i) ∧ ∀ e ∈ sp, ∀ i, i + 1 < n → V e.2.1 (i + 1) → V e.1 i
theorem Abides.left {ps : Nat → Nat → Prop} {n : Nat} {s1 s2 p1 p2 : List Ed} {V : Nat → Nat → Prop} (h : Abides ps n (s1 ++ s2) (p1 ++ p2) V) : Abides ps n s1 p1 V :=
  ⟨fun e he => h.1 e (List.mem_append_left _ he), fun e he => h.2 e (List.mem_append_left _ he)⟩
theorem Abides.right {ps : Nat → Nat → Prop} {n : Nat} {s1 s2 p1 p2 : List Ed} {V : Nat → Nat → Prop} (h : Abides ps n (s1 ++ s2) (p1 ++ p2) V) : Abides ps n s2 p2 V :=
  ⟨fun e he => h.1 e (List.mem_append_right _ he), fun e he => h.2 e (List.mem_append_right _ he)⟩
theorem Abides.both {ps : Nat → Nat → Prop} {n : Nat} {s1 s2 p1 p2 : List Ed} {V : Nat → Nat → Prop} (h : Abides ps n s1 p1 V) (h' : Abides ps n s2 p2 V) : Abides ps n (s1 ++ s2) (p1 ++ p2) V :=
  ⟨fun e he => (List.mem_append.1 he).elim (h.1 e) (h'.1 e), fun e he => (List.mem_append.1 he).elim (h.2 e) (h'.2 e)⟩
/-- What abides the edges knows the ways. -/
theorem abides_way {ps : Nat → Nat → Prop} {n : Nat} {V : Nat → Nat → Prop} : ∀ (x : RE) (s t p k : Nat), Abides ps n (stE x s t p k) (spE x s t p) V → ∀ i j, wayR ps n x k i j → V t j → V s i := by
  intro x
  induction x with
  | no => intro s t p k _ i j h; exact h.elim
  | step =>
    rintro s t p k h i j ⟨rfl, hj⟩ hv
    exact h.2 _ (List.mem_singleton.2 rfl) i hj hv
  | test x =>
    rintro s t p k h i j ⟨rfl, hj, hp⟩ hv
    exact h.1 _ (List.mem_singleton.2 rfl) j hj ((okI_test ps j k).2 hp) hv
  | alt a b iha ihb =>
    rintro s t p k h i j (hw | hw) hv
    · exact iha s t p k h.left i j hw hv
    · exact ihb s t _ _ h.right i j hw hv
  | seq a b iha ihb =>
    rintro s t p k h i j ⟨m, h1, h2⟩ hv
    exact iha s p _ k h.left i m h1 (ihb p t _ _ h.right m j h2 hv)
  | many a iha =>
    rintro s t p k h i j ⟨hi, c, hc⟩ hv
    have h0 : Abides ps n (stE a p p (p + 1) k) (spE a p p (p + 1)) V := ⟨fun e he => h.1 e (List.mem_cons_of_mem _ (List.mem_append_left _ he)), h.2⟩
    have hj := chainN_on (wayR_on ps n a k) hc hi
    have hp : V p j := h.1 (p, t, -1) (List.mem_cons_of_mem _ (List.mem_append_right _ (List.mem_singleton.2 rfl))) j hj (okI_none ps j) hv
    refine h.1 (s, p, -1) List.mem_cons_self i hi (okI_none ps i) (show V p i from ?_)
    clear hi hv
    induction c generalizing i with
    | zero =>
      have hc : i = j := hc
      rw [hc]
      exact hp
    | succ c ih =>
      rcases hc with hc | ⟨q, h1, h2⟩
      · rw [hc]
        exact hp
      · exact iha p p _ k h0 i q h1 (ih q h2)
/-- Where the edges to the next point begin and end. -/
theorem sp_from : ∀ (x : RE) (s t p : Nat), ∀ e ∈ spE x s t p, (e.1 = s ∨ (p ≤ e.1 ∧ e.1 < p + npl x)) ∧ (e.2.1 = t ∨ (p ≤ e.2.1 ∧ e.2.1 < p + npl x)) := by
  intro x
  induction x with
  | no => intro s t p e he; cases he
  | test x => intro s t p e he; cases he
  | step =>
    intro s t p e he
    obtain rfl := List.mem_singleton.1 he
    exact ⟨.inl rfl, .inl rfl⟩
  | alt a b iha ihb =>
    intro s t p e he
    rcases List.mem_append.1 he with he | he
    · have := iha _ _ _ e he
      simp only [npl]; omega
    · have := ihb _ _ _ e he
      simp only [npl]; omega
  | seq a b iha ihb =>
    intro s t p e he
    rcases List.mem_append.1 he with he | he
    · have := iha _ _ _ e he
      simp only [npl]; omega
    · have := ihb _ _ _ e he
      simp only [npl]; omega
  | many a iha =>
    intro s t p e he
    have := iha _ _ _ e he
    simp only [npl]; omega
theorem Abides.congr {ps : Nat → Nat → Prop} {n : Nat} {x : RE} {s t p k : Nat} {V V' : Nat → Nat → Prop} (h : Abides ps n (stE x s t p k) (spE x s t p) V) (hs : ∀ i, V' s i ↔ V s i) (ht : ∀ i, V' t i ↔ V t i)
    (hp : ∀ q, p ≤ q → q < p + npl x → ∀ i, V' q i ↔ V q i) : Abides ps n (stE x s t p k) (spE x s t p) V' := by
  have one : ∀ q i, (q = s ∨ q = t ∨ (p ≤ q ∧ q < p + npl x)) → (V' q i ↔ V q i) := fun q i hq => by
    rcases hq with rfl | rfl | hq
    · exact hs i
    · exact ht i
    · exact hp q hq.1 hq.2 i
  refine ⟨fun e he i hi ho hv => ?_, fun e he i hi hv => ?_⟩
  · obtain ⟨f1, f2⟩ := st_from x s t p k e he
    exact (one _ i (by omega)).2 (h.1 e he i hi ho ((one _ i (by omega)).1 hv))
  · obtain ⟨f1, f2⟩ := sp_from x s t p e he
    exact (one _ i (by omega)).2 (h.2 e he i hi ((one _ (i + 1) (by omega)).1 hv))
def updV (V : Nat → Nat → Prop) (p : Nat) (f : Nat → Prop) : Nat → Nat → Prop := fun q i => if q = p then f i else V q i
theorem updV_at (V : Nat → Nat → Prop) (p : Nat) (f : Nat → Prop) (i : Nat) : updV V p f p i ↔ f i := by unfold updV; rw [if_pos rfl]
theorem updV_other (V : Nat → Nat → Prop) {p q : Nat} (f : Nat → Prop) (i : Nat) (h : q ≠ p) : updV V p f q i ↔ V q i := by unfold updV; rw [if_neg h]
/-- The ways abide the edges. -/
theorem way_abides {ps : Nat → Nat → Prop} {n : Nat} : ∀ (x : RE) (s t p k : Nat) (V : Nat → Nat → Prop), s < p → t < p → (∀ i j, wayR ps n x k i j → V t j → V s i) →
    ∃ V' : Nat → Nat → Prop, (∀ q, ¬ (p ≤ q ∧ q < p + npl x) → ∀ i, V' q i ↔ V q i) ∧ Abides ps n (stE x s t p k) (spE x s t p) V' := by
  intro x
  induction x with
  | no => intro s t p k V _ _ _; exact ⟨V, fun _ _ _ => Iff.rfl, fun e he => (by cases he), fun e he => (by cases he)⟩
  | step =>
    intro s t p k V _ _ h
    refine ⟨V, fun _ _ _ => Iff.rfl, fun e he => (by cases he), fun e he i hi hv => ?_⟩
    obtain rfl := List.mem_singleton.1 he
    exact h i (i + 1) ⟨rfl, hi⟩ hv
  | test x =>
    intro s t p k V _ _ h
    refine ⟨V, fun _ _ _ => Iff.rfl, fun e he i hi ho hv => ?_, fun e he => (by cases he)⟩
    obtain rfl := List.mem_singleton.1 he
    exact h i i ⟨rfl, hi, (okI_test ps i k).1 ho⟩ hv
  | alt a b iha ihb =>
    intro s t p k V hs ht h
    obtain ⟨V1, k1, a1⟩ := iha s t p k V hs ht (fun i j hw => h i j (.inl hw))
    obtain ⟨V2, k2, a2⟩ := ihb s t (p + npl a) (k + nts a) V1 (by omega) (by omega) (fun i j hw hv => (k1 s (by omega) i).2 (h i j (.inr hw) ((k1 t (by omega) j).1 hv)))
    refine ⟨V2, fun q hq i => (k2 q (by simp only [npl] at hq; omega) i).trans (k1 q (by simp only [npl] at hq; omega) i), ?_⟩
    exact Abides.both (a1.congr (k2 s (by omega)) (k2 t (by omega)) (fun q h1 h2 => k2 q (by omega))) a2
  | seq a b iha ihb =>
    intro s t p k V hs ht h
    obtain ⟨V0, hV0⟩ : ∃ V0, updV V p (fun i => ∃ m, wayR ps n b (k + nts a) i m ∧ V t m) = V0 := ⟨_, rfl⟩
    have e0 : ∀ i, V0 p i ↔ ∃ m, wayR ps n b (k + nts a) i m ∧ V t m := fun i => by rw [← hV0]; exact updV_at _ _ _ i
    have e1 : ∀ q, q ≠ p → ∀ i, V0 q i ↔ V q i := fun q hq i => by rw [← hV0]; exact updV_other _ _ i hq
    obtain ⟨V1, k1, a1⟩ := iha s p (p + 1) k V0 (by omega) (by omega) (fun i j hw hv => by
      obtain ⟨m, h1, h2⟩ := (e0 j).1 hv
      exact (e1 s (by omega) i).2 (h i m ⟨j, hw, h1⟩ h2))
    obtain ⟨V2, k2, a2⟩ := ihb p t (p + 1 + npl a) (k + nts a) V1 (by omega) (by omega) (fun i j hw hv => by
      refine (k1 p (by omega) i).2 ((e0 i).2 ⟨j, hw, ?_⟩)
      exact (e1 t (by omega) j).1 ((k1 t (by omega) j).1 hv))
    refine ⟨V2, fun q hq i => ?_, ?_⟩
    · simp only [npl] at hq
      exact ((k2 q (by omega) i).trans (k1 q (by omega) i)).trans (e1 q (by omega) i)
    · exact Abides.both (a1.congr (k2 s (by omega)) (k2 p (by omega)) (fun q h1 h2 => k2 q (by omega))) a2
  | many a iha =>
    intro s t p k V hs ht h
    obtain ⟨V0, hV0⟩ : ∃ V0, updV V p (fun i => ∃ m, wayR ps n (.many a) k i m ∧ V t m) = V0 := ⟨_, rfl⟩
    have e0 : ∀ i, V0 p i ↔ ∃ m, wayR ps n (.many a) k i m ∧ V t m := fun i => by rw [← hV0]; exact updV_at _ _ _ i
    have e1 : ∀ q, q ≠ p → ∀ i, V0 q i ↔ V q i := fun q hq i => by rw [← hV0]; exact updV_other _ _ i hq
    obtain ⟨V1, k1, a1⟩ := iha p p (p + 1) k V0 (by omega) (by omega) (fun i j hw hv => by
      obtain ⟨m, ⟨-, h1⟩, h2⟩ := (e0 j).1 hv
      exact (e0 i).2 ⟨m, ⟨(wayR_on ps n a k i j hw).1, chain_trans (chain_one hw) h1⟩, h2⟩)
    refine ⟨V1, fun q hq i => ?_, ⟨fun e he i hi ho hv => ?_, a1.2⟩⟩
    · simp only [npl] at hq
      exact (k1 q (by omega) i).trans (e1 q (by omega) i)
    · rcases List.mem_cons.1 he with rfl | he
      · have hv : V1 p i := hv
        obtain ⟨m, h1, h2⟩ := (e0 i).1 ((k1 p (by omega) i).1 hv)
        exact (k1 s (by omega) i).2 ((e1 s (by omega) i).2 (h i m h1 h2))
      · rcases List.mem_append.1 he with he | he
        · exact a1.1 e he i hi ho hv
        · obtain rfl := List.mem_singleton.1 he
          have hv : V1 t i := hv
          exact (k1 p (by omega) i).2 ((e0 i).2 ⟨i, ⟨hi, chain_refl _ i⟩, (e1 t (by omega) i).1 ((k1 t (by omega) i).1 hv)⟩)
/-! ### point by point -/
/-- What the places know of the point j behind d points from the last one on, n in all: the steps, the goal, two rounds. -/
def baseB (sp : List Ed) (L : Nat → Prop) (g : Prop) : Nat → Prop := fun p => (∃ e ∈ sp, e.1 = p ∧ L e.2.1) ∨ (p = 1 ∧ g)
def atB (ps : Nat → Nat → Prop) (n j : Nat) (x : RE) : Nat → Nat → Prop
  | 0 => fun _ => False
  | d + 1 => sw (okI ps (n - 1 - d)) (stE x 0 1 2 0) (sw (okI ps (n - 1 - d)) (stE x 0 1 2 0) (baseB (spE x 0 1 2) (atB ps n j x d) (n - 1 - d = j)))
/-- **THE PLACES FIND JUST THE WAYS.** -/
theorem atB_way (ps : Nat → Nat → Prop) (n j : Nat) (x : RE) (i : Nat) (hi : i < n) (hj : j < n) : atB ps n j x (n - i) 0 ↔ wayR ps n x 0 i j := by
  constructor
  · obtain ⟨V, kV, aV⟩ := way_abides (ps := ps) (n := n) x 0 1 2 0 (fun p i => if p = 1 then i = j else wayR ps n x 0 i j) (by omega) (by omega) (fun i m hw hm => by
      have hm : m = j := by simpa using hm
      rw [if_neg (by omega)]
      exact hm ▸ hw)
    have hs : ∀ d, d ≤ n → ∀ q, atB ps n j x d q → V q (n - d) := by
      intro d
      induction d with
      | zero => intro _ q h; exact h.elim
      | succ d ih =>
        intro hd q h
        have hst : ∀ e ∈ stE x 0 1 2 0, okI ps (n - 1 - d) e.2.2 → V e.2.1 (n - 1 - d) → V e.1 (n - 1 - d) := fun e he ho hv => aV.1 e he _ (by omega) ho hv
        have e1 : n - (d + 1) = n - 1 - d := by omega
        rw [e1]
        refine sw_within (V := fun q => V q (n - 1 - d)) _ (sw_within (V := fun q => V q (n - 1 - d)) _ ?_ hst) hst q h
        rintro q (⟨e, he, rfl, hl⟩ | ⟨rfl, hg⟩)
        · cases d with
          | zero => exact hl.elim
          | succ d =>
            have hl := ih (by omega) _ hl
            refine aV.2 e he _ (by omega) ?_
            rw [show n - 1 - (d + 1) + 1 = n - (d + 1) by omega]
            exact hl
        · refine (kV 1 (by omega) _).2 ?_
          rw [if_pos rfl]
          exact hg
    intro h
    have h := hs (n - i) (by omega) 0 h
    rw [show n - (n - i) = i by omega] at h
    have h := (kV 0 (by omega) i).1 h
    rwa [if_neg (by omega)] at h
  · intro hw
    refine abides_way (V := fun q i => atB ps n j x (n - i) q) x 0 1 2 0 ⟨fun e he i hi ho hv => ?_, fun e he i hi hv => ?_⟩ i j hw ?_
    · have e1 : n - i = (n - 1 - i) + 1 := by omega
      simp only [e1] at hv ⊢
      unfold atB at hv ⊢
      rw [show n - 1 - (n - 1 - i) = i by omega] at hv ⊢
      exact two_rounds (okI_none ps i) x _ e he ho hv
    · have e1 : n - i = (n - (i + 1)) + 1 := by omega
      simp only [e1]
      unfold atB
      exact sw_ext _ (sw_ext _ (.inl ⟨e, he, rfl, hv⟩))
    · show atB ps n j x (n - j) 1
      have e1 : n - j = (n - 1 - j) + 1 := by omega
      rw [e1]
      unfold atB
      exact sw_ext _ (sw_ext _ (.inr ⟨rfl, by omega⟩))
end Go.Proofs.Ytcpmcgbjmncalaa.Paths
