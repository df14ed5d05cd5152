/-
  The places of a regular expression's graph, point by point from the last one on, find just the ways (stage 14). By an AI agent.
  The nodes of a regular expression as a tree; its tests, numbered as they stand in the list (stage 14). By an AI agent.
-/
import Derived.Test.YtdbgaccnejffpaaGreatDoorGSatDual7
import Derived.Test.YtdbgaccnejffpaaGreatDoorGSatDual5
import Derived.Test.YtdbgaccnejffpaaGreatDoorGSatDual6
namespace Go.Proofs.YtdbgaccnejffpaaGreatDoor.Paths
def wayR (ps : Nat → Nat → Prop) (n : Nat) : RE → Nat → Nat → Nat → Prop
 | .step, _, i, j => j = i + 1 ∧ j < n
 | .test _, k, i, j => j = i ∧ i < n ∧ ps i k
 | .alt a b, k, i, j => wayR ps n a k i j ∨ wayR ps n b (k + nts a) i j
 | .seq a b, k, i, j => ∃ m, wayR ps n a k i m ∧ wayR ps n b (k + nts a) m j
 | .many a, k, i, j => i < n ∧ Chain (wayR ps n a k) i j
 | .no, _, _, _ => False
theorem chain_on {n : Nat} {R : Nat → Nat → Prop} (hR : On n R) {i j : Nat} (h : Chain R i j) (hi : i < n) : j < n := h.elim fun _ h => chainN_on hR h hi
theorem wayR_on (ps : Nat → Nat → Prop) (n : Nat) : ∀ (x : RE) (k : Nat), On n (wayR ps n x k) := by
 intro x
 induction x with
 | no => intro k i j h; exact h.elim
 | step => intro k i j h; exact ⟨by have := h.1; have := h.2; omega, h.2⟩
 | test x => intro k i j h; exact ⟨h.2.1, by have := h.1; have := h.2.1; omega⟩
 | alt a b iha ihb => intro k i j h; exact h.elim (iha k i j) (ihb _ i j)
 | seq a b iha ihb => intro k i j h; exact h.elim fun m h => ⟨(iha k i m h.1).1, (ihb _ m j h.2).2⟩
 | many a iha => intro k i j h; exact ⟨h.1, chain_on (iha k) h.2 h.1⟩
def okI (ps : Nat → Nat → Prop) (i : Nat) (t : Int) : Prop := t = -1 ∨ ∃ k : Nat, t = (k : Int) ∧ ps i k
theorem okI_none (ps : Nat → Nat → Prop) (i : Nat) : okI ps i (-1) := .inl rfl
theorem okI_test (ps : Nat → Nat → Prop) (i k : Nat) : okI ps i (k : Int) ↔ ps i k := by
 constructor
 ·rintro (h | ⟨q, h, hp⟩)
  ·omega
  ·obtain rfl : k = q := by omega
   exact hp
 ·exact fun h => .inr ⟨k, rfl, h⟩
def Abides (ps : Nat → Nat → Prop) (n : Nat) (st sp : List Ed) (V : Nat → Nat → Prop) : Prop :=
 (∀ e ∈ st, ∀ i, i < n → okI ps i e.2.2 → V e.2.1 i → V e.1 i) ∧ ∀ e ∈ sp, ∀ i, i + 1 < n → V e.2.1 (i + 1) → V e.1 i
theorem Abides.left {ps : Nat → Nat → Prop} {n : Nat} {s1 s2 p1 p2 : List Ed} {V : Nat → Nat → Prop} (h : Abides ps n (s1 ++ s2) (p1 ++ p2) V) : Abides ps n s1 p1 V :=
 ⟨fun e he => h.1 e (List.mem_append_left _ he), fun e he => h.2 e (List.mem_append_left _ he)⟩
theorem Abides.right {ps : Nat → Nat → Prop} {n : Nat} {s1 s2 p1 p2 : List Ed} {V : Nat → Nat → Prop} (h : Abides ps n (s1 ++ s2) (p1 ++ p2) V) : Abides ps n s2 p2 V :=
 ⟨fun e he => h.1 e (List.mem_append_right _ he), fun e he => h.2 e (List.mem_append_right _ he)⟩
theorem Abides.both {ps : Nat → Nat → Prop} {n : Nat} {s1 s2 p1 p2 : List Ed} {V : Nat → Nat → Prop} (h : Abides ps n s1 p1 V) (h' : Abides ps n s2 p2 V) : Abides ps n (s1 ++ s2) (p1 ++ p2) V :=
 ⟨fun e he => (List.mem_append.1 he).elim (h.1 e) (h'.1 e), fun e he => (List.mem_append.1 he).elim (h.2 e) (h'.2 e)⟩
theorem abides_way {ps : Nat → Nat → Prop} {n : Nat} {V : Nat → Nat → Prop} : ∀ (x : RE) (s t p k : Nat), Abides ps n (stE x s t p k) (spE x s t p) V → ∀ i j, wayR ps n x k i j → V t j → V s i := by
 intro x
 induction x with
 | no => intro s t p k _ i j h; exact h.elim
 | step =>
  rintro s t p k h i j ⟨rfl, hj⟩ hv
  exact h.2 _ (List.mem_singleton.2 rfl) i hj hv
 | test x =>
  rintro s t p k h i j ⟨rfl, hj, hp⟩ hv
  exact h.1 _ (List.mem_singleton.2 rfl) j hj ((okI_test ps j k).2 hp) hv
 | alt a b iha ihb =>
  rintro s t p k h i j (hw | hw) hv
  ·exact iha s t p k h.left i j hw hv
  ·exact ihb s t _ _ h.right i j hw hv
 | seq a b iha ihb =>
  rintro s t p k h i j ⟨m, h1, h2⟩ hv
  exact iha s p _ k h.left i m h1 (ihb p t _ _ h.right m j h2 hv)
 | many a iha =>
  rintro s t p k h i j ⟨hi, c, hc⟩ hv
  have h0 : Abides ps n (stE a p p (p + 1) k) (spE a p p (p + 1)) V := ⟨fun e he => h.1 e (List.mem_cons_of_mem _ (List.mem_append_left _ he)), h.2⟩
  have hj := chainN_on (wayR_on ps n a k) hc hi
  have hp : V p j := h.1 (p, t, -1) (List.mem_cons_of_mem _ (List.mem_append_right _ (List.mem_singleton.2 rfl))) j hj (okI_none ps j) hv
  refine h.1 (s, p, -1) List.mem_cons_self i hi (okI_none ps i) (show V p i from ?_)
  clear hi hv
  induction c generalizing i with
  | zero =>
   have hc : i = j := hc
   rw [hc]
   exact hp
  | succ c ih =>
   rcases hc with hc | ⟨q, h1, h2⟩
   ·rw [hc]
    exact hp
   ·exact iha p p _ k h0 i q h1 (ih q h2)
theorem sp_from : ∀ (x : RE) (s t p : Nat), ∀ e ∈ spE x s t p, (e.1 = s ∨ (p ≤ e.1 ∧ e.1 < p + npl x)) ∧ (e.2.1 = t ∨ (p ≤ e.2.1 ∧ e.2.1 < p + npl x)) := by
 intro x
 induction x with
 | no => intro s t p e he; cases he
 | test x => intro s t p e he; cases he
 | step =>
  intro s t p e he
  obtain rfl := List.mem_singleton.1 he
  exact ⟨.inl rfl, .inl rfl⟩
 | alt a b iha ihb =>
  intro s t p e he
  rcases List.mem_append.1 he with he | he
  ·have := iha _ _ _ e he
   simp only [npl]; omega
  ·have := ihb _ _ _ e he
   simp only [npl]; omega
 | seq a b iha ihb =>
  intro s t p e he
  rcases List.mem_append.1 he with he | he
  ·have := iha _ _ _ e he
   simp only [npl]; omega
  ·have := ihb _ _ _ e he
   simp only [npl]; omega
 | many a iha =>
  intro s t p e he
  have := iha _ _ _ e he
  simp only [npl]; omega
theorem Abides.congr {ps : Nat → Nat → Prop} {n : Nat} {x : RE} {s t p k : Nat} {V V' : Nat → Nat → Prop} (h : Abides ps n (stE x s t p k) (spE x s t p) V) (hs : ∀ i, V' s i ↔ V s i) (ht : ∀ i, V' t i ↔ V t i)
  (hp : ∀ q, p ≤ q → q < p + npl x → ∀ i, V' q i ↔ V q i) : Abides ps n (stE x s t p k) (spE x s t p) V' := by
 have one : ∀ q i, (q = s ∨ q = t ∨ (p ≤ q ∧ q < p + npl x)) → (V' q i ↔ V q i) := fun q i hq => by
  rcases hq with rfl | rfl | hq
  ·exact hs i
  ·exact ht i
  ·exact hp q hq.1 hq.2 i
 refine ⟨fun e he i hi ho hv => ?_, fun e he i hi hv => ?_⟩
 ·obtain ⟨f1, f2⟩ := st_from x s t p k e he
  exact (one _ i (by omega)).2 (h.1 e he i hi ho ((one _ i (by omega)).1 hv))
 ·obtain ⟨f1, f2⟩ := sp_from x s t p e he
  exact (one _ i (by omega)).2 (h.2 e he i hi ((one _ (i + 1) (by omega)).1 hv))
def updV (V : Nat → Nat → Prop) (p : Nat) (f : Nat → Prop) : Nat → Nat → Prop := fun q i => if q = p then f i else V q i
theorem updV_at (V : Nat → Nat → Prop) (p : Nat) (f : Nat → Prop) (i : Nat) : updV V p f p i ↔ f i := by unfold updV; rw [if_pos rfl]
theorem updV_other (V : Nat → Nat → Prop) {p q : Nat} (f : Nat → Prop) (i : Nat) (h : q ≠ p) : updV V p f q i ↔ V q i := by unfold updV; rw [if_neg h]
theorem way_abides {ps : Nat → Nat → Prop} {n : Nat} : ∀ (x : RE) (s t p k : Nat) (V : Nat → Nat → Prop), s < p → t < p → (∀ i j, wayR ps n x k i j → V t j → V s i) →
  ∃ V' : Nat → Nat → Prop, (∀ q, ¬ (p ≤ q ∧ q < p + npl x) → ∀ i, V' q i ↔ V q i) ∧ Abides ps n (stE x s t p k) (spE x s t p) V' := by
 intro x
 induction x with
 | no => intro s t p k V _ _ _; exact ⟨V, fun _ _ _ => Iff.rfl, fun e he => (by cases he), fun e he => (by cases he)⟩
 | step =>
  intro s t p k V _ _ h
  refine ⟨V, fun _ _ _ => Iff.rfl, fun e he => (by cases he), fun e he i hi hv => ?_⟩
  obtain rfl := List.mem_singleton.1 he
  exact h i (i + 1) ⟨rfl, hi⟩ hv
 | test x =>
  intro s t p k V _ _ h
  refine ⟨V, fun _ _ _ => Iff.rfl, fun e he i hi ho hv => ?_, fun e he => (by cases he)⟩
  obtain rfl := List.mem_singleton.1 he
  exact h i i ⟨rfl, hi, (okI_test ps i k).1 ho⟩ hv
 | alt a b iha ihb =>
  intro s t p k V hs ht h
  obtain ⟨V1, k1, a1⟩ := iha s t p k V hs ht (fun i j hw => h i j (.inl hw))
  obtain ⟨V2, k2, a2⟩ := ihb s t (p + npl a) (k + nts a) V1 (by omega) (by omega) (fun i j hw hv => (k1 s (by omega) i).2 (h i j (.inr hw) ((k1 t (by omega) j).1 hv)))
  refine ⟨V2, fun q hq i => (k2 q (by simp only [npl] at hq; omega) i).trans (k1 q (by simp only [npl] at hq; omega) i), ?_⟩
  exact Abides.both (a1.congr (k2 s (by omega)) (k2 t (by omega)) (fun q h1 h2 => k2 q (by omega))) a2
 | seq a b iha ihb =>
  intro s t p k V hs ht h
  obtain ⟨V0, hV0⟩ : ∃ V0, updV V p (fun i => ∃ m, wayR ps n b (k + nts a) i m ∧ V t m) = V0 := ⟨_, rfl⟩
  have e0 : ∀ i, V0 p i ↔ ∃ m, wayR ps n b (k + nts a) i m ∧ V t m := fun i => by rw [← hV0]; exact updV_at _ _ _ i
  have e1 : ∀ q, q ≠ p → ∀ i, V0 q i ↔ V q i := fun q hq i => by rw [← hV0]; exact updV_other _ _ i hq
  obtain ⟨V1, k1, a1⟩ := iha s p (p + 1) k V0 (by omega) (by omega) (fun i j hw hv => by
   obtain ⟨m, h1, h2⟩ := (e0 j).1 hv
   exact (e1 s (by omega) i).2 (h i m ⟨j, hw, h1⟩ h2))
  obtain ⟨V2, k2, a2⟩ := ihb p t (p + 1 + npl a) (k + nts a) V1 (by omega) (by omega) (fun i j hw hv => by
   refine (k1 p (by omega) i).2 ((e0 i).2 ⟨j, hw, ?_⟩)
   exact (e1 t (by omega) j).1 ((k1 t (by omega) j).1 hv))
  refine ⟨V2, fun q hq i => ?_, ?_⟩
  ·simp only [npl] at hq
   exact ((k2 q (by omega) i).trans (k1 q (by omega) i)).trans (e1 q (by omega) i)
  ·exact Abides.both (a1.congr (k2 s (by omega)) (k2 p (by omega)) (fun q h1 h2 => k2 q (by omega))) a2
 | many a iha =>
  intro s t p k V hs ht h
  obtain ⟨V0, hV0⟩ : ∃ V0, updV V p (fun i => ∃ m, wayR ps n (.many a) k i m ∧ V t m) = V0 := ⟨_, rfl⟩
  have e0 : ∀ i, V0 p i ↔ ∃ m, wayR ps n (.many a) k i m ∧ V t m := fun i => by rw [← hV0]; exact updV_at _ _ _ i
  have e1 : ∀ q, q ≠ p → ∀ i, V0 q i ↔ V q i := fun q hq i => by rw [← hV0]; exact updV_other _ _ i hq
  obtain ⟨V1, k1, a1⟩ := iha p p (p + 1) k V0 (by omega) (by omega) (fun i j hw hv => by
   obtain ⟨m, ⟨-, h1⟩, h2⟩ := (e0 j).1 hv
   exact (e0 i).2 ⟨m, ⟨(wayR_on ps n a k i j hw).1, chain_trans (chain_one hw) h1⟩, h2⟩)
  refine ⟨V1, fun q hq i => ?_, ⟨fun e he i hi ho hv => ?_, a1.2⟩⟩
  ·simp only [npl] at hq
   exact (k1 q (by omega) i).trans (e1 q (by omega) i)
  ·rcases List.mem_cons.1 he with rfl | he
   ·have hv : V1 p i := hv
    obtain ⟨m, h1, h2⟩ := (e0 i).1 ((k1 p (by omega) i).1 hv)
    exact (k1 s (by omega) i).2 ((e1 s (by omega) i).2 (h i m h1 h2))
   ·rcases List.mem_append.1 he with he | he
    ·exact a1.1 e he i hi ho hv
    ·obtain rfl := List.mem_singleton.1 he
     have hv : V1 t i := hv
     exact (k1 p (by omega) i).2 ((e0 i).2 ⟨i, ⟨hi, chain_refl _ i⟩, (e1 t (by omega) i).1 ((k1 t (by omega) i).1 hv)⟩)
def baseB (sp : List Ed) (L : Nat → Prop) (g : Prop) : Nat → Prop := fun p => (∃ e ∈ sp, e.1 = p ∧ L e.2.1) ∨ (p = 1 ∧ g)
def atB (ps : Nat → Nat → Prop) (n j : Nat) (x : RE) : Nat → Nat → Prop
 | 0 => fun _ => False
 | d + 1 => sw (okI ps (n - 1 - d)) (stE x 0 1 2 0) (sw (okI ps (n - 1 - d)) (stE x 0 1 2 0) (baseB (spE x 0 1 2) (atB ps n j x d) (n - 1 - d = j)))
theorem atB_way (ps : Nat → Nat → Prop) (n j : Nat) (x : RE) (i : Nat) (hi : i < n) (hj : j < n) : atB ps n j x (n - i) 0 ↔ wayR ps n x 0 i j := by
 constructor
 ·obtain ⟨V, kV, aV⟩ := way_abides (ps := ps) (n := n) x 0 1 2 0 (fun p i => if p = 1 then i = j else wayR ps n x 0 i j) (by omega) (by omega) (fun i m hw hm => by
   have hm : m = j := by simpa using hm
   rw [if_neg (by omega)]
   exact hm ▸ hw)
  have hs : ∀ d, d ≤ n → ∀ q, atB ps n j x d q → V q (n - d) := by
   intro d
   induction d with
   | zero => intro _ q h; exact h.elim
   | succ d ih =>
    intro hd q h
    have hst : ∀ e ∈ stE x 0 1 2 0, okI ps (n - 1 - d) e.2.2 → V e.2.1 (n - 1 - d) → V e.1 (n - 1 - d) := fun e he ho hv => aV.1 e he _ (by omega) ho hv
    have e1 : n - (d + 1) = n - 1 - d := by omega
    rw [e1]
    refine sw_within (V := fun q => V q (n - 1 - d)) _ (sw_within (V := fun q => V q (n - 1 - d)) _ ?_ hst) hst q h
    rintro q (⟨e, he, rfl, hl⟩ | ⟨rfl, hg⟩)
    ·cases d with
     | zero => exact hl.elim
     | succ d =>
      have hl := ih (by omega) _ hl
      refine aV.2 e he _ (by omega) ?_
      rw [show n - 1 - (d + 1) + 1 = n - (d + 1) by omega]
      exact hl
    ·refine (kV 1 (by omega) _).2 ?_
     rw [if_pos rfl]
     exact hg
  intro h
  have h := hs (n - i) (by omega) 0 h
  rw [show n - (n - i) = i by omega] at h
  have h := (kV 0 (by omega) i).1 h
  rwa [if_neg (by omega)] at h
 ·intro hw
  refine abides_way (V := fun q i => atB ps n j x (n - i) q) x 0 1 2 0 ⟨fun e he i hi ho hv => ?_, fun e he i hi hv => ?_⟩ i j hw ?_
  ·have e1 : n - i = (n - 1 - i) + 1 := by omega
   simp only [e1] at hv ⊢
   unfold atB at hv ⊢
   rw [show n - 1 - (n - 1 - i) = i by omega] at hv ⊢
   exact two_rounds (okI_none ps i) x _ e he ho hv
  ·have e1 : n - i = (n - (i + 1)) + 1 := by omega
   simp only [e1]
   unfold atB
   exact sw_ext _ (sw_ext _ (.inl ⟨e, he, rfl, hv⟩))
  ·show atB ps n j x (n - j) 1
   have e1 : n - j = (n - 1 - j) + 1 := by omega
   rw [e1]
   unfold atB
   exact sw_ext _ (sw_ext _ (.inr ⟨rfl, by omega⟩))
end Go.Proofs.YtdbgaccnejffpaaGreatDoor.Paths

namespace Go.Proofs.YtdbgaccnejffpaaGreatDoor.Paths
open Go.RowKit Go.Proofs.YtdbgaccnejffpaaGreatDoor.Ints Go.Proofs.YtdbgaccnejffpaaGreatDoor.Tree Go.Proofs.YtdbgaccnejffpaaGreatDoor.BitsWalks
theorem node_over {l : List Nd} (h : mayL l = true) {i : Nat} {n : Nd} (hn : l[i]? = some n) : ∃ st, Over l (startL l i) i n st ∧ n.kids = zints st ∧ st.length = kidc n.kind ∧ fieldsB n = true ∧ kidsB l n = true := by
 have hi := (List.getElem?_eq_some_iff.1 hn).1
 obtain ⟨st1, hst⟩ := upTo_some (l := l) (i := i + 1) (by obtain ⟨s, h1, -⟩ := may_all h; rw [h1]; rfl) hi
 obtain ⟨st, n', hu, hn', ⟨c1, c2, c3, c4⟩, -⟩ := upTo_succ hst
 obtain rfl : n' = n := by rw [hn] at hn'; injection hn' with hn'; exact hn'.symm
 have hT := tiles_upTo h i st (by omega) hu
 have hsp : st.take (st.length - kidc n'.kind) ++ st.drop (st.length - kidc n'.kind) = st := List.take_append_drop _ _
 rw [← hsp, tiles_append] at hT
 obtain ⟨m, hT1, hT2⟩ := hT
 have hz : n'.kids = zints (st.drop (st.length - kidc n'.kind)) := by rw [c2]; unfold zints; rw [List.map_drop]
 have hl : (st.drop (st.length - kidc n'.kind)).length = kidc n'.kind := by rw [List.length_drop]; omega
 have hO := good_over (kids_ahead h) hn hT2 hz hl
 have hm : startL l i = m := by rcases hO with ⟨-, -, -, e⟩ | ⟨t, -, -, -, -, e⟩ | ⟨t, u, -, -, -, -, -, e⟩ <;> exact e
 rw [hm]
 exact ⟨_, hO, hz, hl, c3, c4⟩
theorem kind_some {l : List Nd} {i : Nat} (hi : i < l.length) : ∃ n, l[i]? = some n ∧ kindN l i = n.kind := by
 obtain ⟨n, hn⟩ : ∃ n, l[i]? = some n := ⟨_, List.getElem?_eq_getElem hi⟩
 exact ⟨n, hn, kind_of hn⟩
theorem kindAt_N (l : List Nd) (t : Nat) : kindAt l (t : Int) = (kindN l t) := by
 unfold kindAt kindN
 rw [Int.toNat_natCast]
theorem node_leaf {l : List Nd} (h : mayL l = true) {i : Nat} (hi : i < l.length) (hk : kidc (kindN l i) = 0) : startL l i = i := by
 obtain ⟨n, hn, e⟩ := kind_some hi
 obtain ⟨st, hO, -, hl, -⟩ := node_over h hn
 rw [e] at hk
 rcases hO with ⟨-, e, -, -⟩ | ⟨t, rfl, -⟩ | ⟨t, u, rfl, -⟩
 ·exact e
 ·simp at hl; omega
 ·simp at hl; omega
theorem node_one {l : List Nd} (h : mayL l = true) {i : Nat} (hi : i < l.length) (hk : kidc (kindN l i) = 1) : ∃ n, l[i]? = some n ∧ n.kids = [((i - 1 : Nat) : Int)] ∧ 0 < i ∧ startL l i = startL l (i - 1) ∧ kidN l i 0 = i - 1 ∧ regKind (kindN l (i - 1)) = takesReg (kindN l i) := by
 obtain ⟨n, hn, e⟩ := kind_some hi
 obtain ⟨st, hO, hz, hl, -, hb⟩ := node_over h hn
 rw [e] at hk
 rcases hO with ⟨rfl, -⟩ | ⟨t, rfl, hg, ht, -, -⟩ | ⟨t, u, rfl, -⟩
 ·simp at hl; omega
 ·obtain rfl : t = i - 1 := by omega
  have hz : n.kids = [((i - 1 : Nat) : Int)] := hz
  refine ⟨n, hn, hz, by omega, hg.2.2.2.symm, ?_, ?_⟩
  ·unfold kidN
   rw [hn]
   show ((n.kids)[0]?.getD 0).toNat = i - 1
   rw [hz]
   show (((i - 1 : Nat) : Int)).toNat = i - 1
   omega
  ·unfold kidsB at hb
   rw [hz, List.all_cons, List.all_nil, Bool.and_true, beq_iff_eq, kindAt_N] at hb
   rw [e]
   exact hb
 ·simp at hl; omega
theorem node_two {l : List Nd} (h : mayL l = true) {i : Nat} (hi : i < l.length) (hk : kidc (kindN l i) = 2) : ∃ (n : Nd) (t : Nat), l[i]? = some n ∧ n.kids = [(t : Int), ((i - 1 : Nat) : Int)] ∧ t + 1 < i ∧ startL l i = startL l t ∧ startL l (i - 1) = t + 1 ∧ kidN l i 0 = t ∧ kidN l i 1 = i - 1 ∧ startL l t ≤ t ∧ regKind (kindN l t) = takesReg (kindN l i) ∧ regKind (kindN l (i - 1)) = takesReg (kindN l i) := by
 obtain ⟨n, hn, e⟩ := kind_some hi
 obtain ⟨st, hO, hz, hl, -, hb⟩ := node_over h hn
 rw [e] at hk
 rcases hO with ⟨rfl, -⟩ | ⟨t, rfl, -⟩ | ⟨t, u, rfl, hg, hg2, hu, -, -⟩
 ·simp at hl; omega
 ·simp at hl; omega
 ·obtain rfl : u = i - 1 := by omega
  have hz : n.kids = [(t : Int), ((i - 1 : Nat) : Int)] := hz
  have h1 := hg.2.2.2
  have h2 := hg2.2.2.2
  have h3 := hg2.1
  unfold kidsB at hb
  rw [hz, List.all_cons, List.all_cons, List.all_nil, Bool.and_true, Bool.and_eq_true, beq_iff_eq, beq_iff_eq, kindAt_N, kindAt_N] at hb
  refine ⟨n, t, hn, hz, by omega, h1.symm, h2, ?_, ?_, by rw [h1]; exact hg.1, by rw [e]; exact hb.1, by rw [e]; exact hb.2⟩
  ·unfold kidN
   rw [hn]
   show ((n.kids)[0]?.getD 0).toNat = t
   rw [hz]
   show ((t : Int)).toNat = t
   omega
  ·unfold kidN
   rw [hn]
   show ((n.kids)[1]?.getD 0).toNat = i - 1
   rw [hz]
   show (((i - 1 : Nat) : Int)).toNat = i - 1
   omega
theorem kidc_ways (k : Int) : kidc k = 0 ∨ kidc k = 1 ∨ kidc k = 2 := by
 unfold kidc
 split
 ·exact .inl rfl
 ·split
  ·exact .inr (.inr rfl)
  ·exact .inr (.inl rfl)
theorem start_within {l : List Nd} (h : mayL l = true) : ∀ i, i < l.length → ∀ k, startL l i ≤ k → k ≤ i → startL l i ≤ startL l k ∧ startL l k ≤ k := by
 intro i
 induction i using Nat.strongRecOn with
 | ind i ih =>
  intro hi k h1 h2
  by_cases hk : k = i
  ·subst hk
   exact ⟨Nat.le_refl _, h1⟩
  ·rcases kidc_ways (kindN l i) with e | e | e
   ·rw [node_leaf h hi e] at h1
    omega
   ·obtain ⟨n, -, -, h3, h4, -⟩ := node_one h hi e
    rw [h4] at h1 ⊢
    exact ih (i - 1) (by omega) (by omega) k h1 (by omega)
   ·obtain ⟨n, t, -, -, h3, h4, h5, -, -, h8, -⟩ := node_two h hi e
    rw [h4] at h1 ⊢
    rcases Nat.lt_or_ge t k with h6 | h6
    ·have := ih (i - 1) (by omega) (by omega) k (by omega) (by omega)
     exact ⟨by omega, this.2⟩
    ·exact ih t (by omega) (by omega) k h1 h6
theorem start_within_self {l : List Nd} (h : mayL l = true) {i : Nat} (hi : i < l.length) : startL l i ≤ i := (part_good h hi).1
def reL (l : List Nd) : Nat → Nat → RE
 | 0, _ => .no
 | f + 1, i =>
  if kindN l i = 18 then .step else if kindN l i = 19 then .test i
  else if kindN l i = 20 then .alt (reL l f (kidN l i 0)) (reL l f (kidN l i 1))
  else if kindN l i = 21 then .seq (reL l f (kidN l i 0)) (reL l f (kidN l i 1))
  else if kindN l i = 22 then .many (reL l f (kidN l i 0)) else .no
def tsE : RE → List Nat
 | .test x => [x]
 | .alt a b => tsE a ++ tsE b
 | .seq a b => tsE a ++ tsE b
 | .many a => tsE a
 | _ => []
theorem tsE_len : ∀ x : RE, (tsE x).length = nts x := by
 intro x
 induction x with
 | no => rfl
 | step => rfl
 | test x => rfl
 | alt a b iha ihb => simp only [tsE, nts, List.length_append, iha, ihb]
 | seq a b iha ihb => simp only [tsE, nts, List.length_append, iha, ihb]
 | many a iha => simp only [tsE, nts, iha]
def inU (l : List Nd) (i x : Nat) : Prop := ∃ k, x < k ∧ k ≤ i ∧ kindN l k = 19 ∧ startL l k ≤ x
instance (l : List Nd) (i x : Nat) : Decidable (inU l i x) := decidable_of_iff (∃ k, k < i + 1 ∧ (x < k ∧ kindN l k = 19 ∧ startL l k ≤ x)) (by
 unfold inU
 constructor
 ·rintro ⟨k, h1, h2, h3, h4⟩; exact ⟨k, h2, by omega, h3, h4⟩
 ·rintro ⟨k, h1, h2, h3, h4⟩; exact ⟨k, by omega, h1, h3, h4⟩)
theorem inside_inU {l : List Nd} {x : Nat} (h0 : 0 < l.length) : insideB l x = true ↔ inU l (l.length - 1) x := by
 unfold insideB inU
 rw [List.any_eq_true]
 constructor
 ·rintro ⟨k, hk, hc⟩
  rw [Bool.and_eq_true, Bool.and_eq_true, decide_eq_true_eq, decide_eq_true_eq, decide_eq_true_eq] at hc
  have := List.mem_range.1 hk
  exact ⟨k, hc.1, by omega, hc.2.1, hc.2.2⟩
 ·rintro ⟨k, h1, h2, h3, h4⟩
  exact ⟨k, List.mem_range.2 (by omega), by rw [decide_eq_true h1, decide_eq_true h3, decide_eq_true h4]; rfl⟩
def pickU (l : List Nd) (i x : Nat) : Bool := decide (kindN l x = 19 ∧ ¬ inU l i x)
theorem pick_top {l : List Nd} {i : Nat} (h : kindN l i ≠ 19) : pickU l i i = false := decide_eq_false (fun e => h e.1)
theorem pick_congr {l : List Nd} {i t x : Nat} (h : inU l i x ↔ inU l t x) : pickU l i x = pickU l t x := decide_eq_decide.2 (by rw [h])
set_option maxRecDepth 20000 in
theorem tests_part {l : List Nd} (h : mayL l = true) : ∀ (f i : Nat), i < l.length → i < f → regKind (kindN l i) = true → tsE (reL l f i) = (List.range' (startL l i) (i + 1 - startL l i)).filter (pickU l i) := by
 intro f
 induction f with
 | zero => intro i _ hf; omega
 | succ f ih =>
  intro i hi hf hr
  have hk : 18 ≤ kindN l i ∧ kindN l i ≤ 22 := of_decide_eq_true hr
  have hsi := (start_within h i hi i (start_within_self h hi) (Nat.le_refl _)).2
  unfold reL
  by_cases e18 : kindN l i = 18
  ·have hs := node_leaf h hi (by rw [e18]; decide)
   rw [if_pos e18, hs, show i + 1 - i = 1 by omega]
   show [] = [i].filter _
   rw [List.filter_cons, pick_top (by omega)]
   rfl
  rw [if_neg e18]
  by_cases e19 : kindN l i = 19
  ·rw [if_pos e19]
   obtain ⟨n, -, -, h3, h4, -⟩ := node_one h hi (by rw [e19]; decide)
   have hr : i + 1 - startL l i = (i - startL l i) + 1 := by omega
   rw [hr, List.range'_concat, List.filter_append]
   have ha : (List.range' (startL l i) (i - startL l i)).filter (pickU l i) = [] := by
    rw [List.filter_eq_nil_iff]
    intro x hx hc
    rw [List.mem_range'_1] at hx
    exact (of_decide_eq_true hc).2 ⟨i, by omega, Nat.le_refl _, e19, hx.1⟩
   rw [ha, List.nil_append, show startL l i + 1 * (i - startL l i) = i by omega, List.filter_cons]
   have hb : pickU l i i = true := decide_eq_true ⟨e19, fun ⟨k, h5, h6, _⟩ => by omega⟩
   rw [if_pos hb]
   rfl
  rw [if_neg e19]
  have two : (kindN l i = 20 ∨ kindN l i = 21) → tsE (reL l f (kidN l i 0)) ++ tsE (reL l f (kidN l i 1)) = (List.range' (startL l i) (i + 1 - startL l i)).filter (pickU l i) := fun e2 => by
   obtain ⟨n, t, -, -, h3, h4, h5, h6, h7, h8, h9, h10⟩ := node_two h hi (by rcases e2 with e2 | e2 <;> rw [e2] <;> decide)
   have hr : takesReg (kindN l i) = true := by rcases e2 with e2 | e2 <;> rw [e2] <;> decide
   rw [hr] at h9 h10
   rw [h6, h7, ih t (by omega) (by omega) h9, ih (i - 1) (by omega) (by omega) h10, h4, h5]
   have e1 : i + 1 - startL l t = (t + 1 - startL l t) + ((i - 1 + 1 - (t + 1)) + 1) := by omega
   rw [e1, ← List.range'_append_1, List.filter_append, show startL l t + (t + 1 - startL l t) = t + 1 by omega, List.range'_concat, List.filter_append]
   rw [show t + 1 + 1 * (i - 1 + 1 - (t + 1)) = i by omega]
   have e3 : [i].filter (pickU l i) = [] := by rw [List.filter_cons, pick_top e19]; rfl
   rw [e3, List.append_nil]
   congr 1
   ·refine List.filter_congr fun x hx => ?_
    rw [List.mem_range'_1] at hx
    refine (pick_congr ?_).symm
    constructor
    ·rintro ⟨k, g1, g2, g3, g4⟩
     rcases Nat.lt_or_ge t k with g5 | g5
     ·rcases Nat.lt_or_ge k i with g6 | g6
      ·have := (start_within h (i - 1) (by omega) k (by omega) (by omega)).1
       omega
      ·obtain rfl : k = i := by omega
       exact absurd g3 e19
     ·exact ⟨k, g1, g5, g3, g4⟩
    ·rintro ⟨k, g1, g2, g3, g4⟩
     exact ⟨k, g1, by omega, g3, g4⟩
   ·refine List.filter_congr fun x hx => ?_
    refine (pick_congr ?_).symm
    constructor
    ·rintro ⟨k, g1, g2, g3, g4⟩
     rcases Nat.lt_or_ge k i with g6 | g6
     ·exact ⟨k, g1, by omega, g3, g4⟩
     ·obtain rfl : k = i := by omega
      exact absurd g3 e19
    ·rintro ⟨k, g1, g2, g3, g4⟩
     exact ⟨k, g1, by omega, g3, g4⟩
  by_cases e20 : kindN l i = 20
  ·rw [if_pos e20]
   exact two (.inl e20)
  rw [if_neg e20]
  by_cases e21 : kindN l i = 21
  ·rw [if_pos e21]
   exact two (.inr e21)
  rw [if_neg e21]
  have e22 : kindN l i = 22 := by omega
  rw [if_pos e22]
  obtain ⟨n, -, -, h3, h4, h5, h6⟩ := node_one h hi (by rw [e22]; decide)
  rw [show takesReg (kindN l i) = true by rw [e22]; decide] at h6
  show tsE (reL l f (kidN l i 0)) = _
  rw [h5, ih (i - 1) (by omega) (by omega) h6, h4]
  rw [h4] at hsi
  have hs1 := start_within_self h (show i - 1 < l.length by omega)
  rw [show i + 1 - startL l (i - 1) = (i - 1 + 1 - startL l (i - 1)) + 1 by omega, List.range'_concat, List.filter_append, show startL l (i - 1) + 1 * (i - 1 + 1 - startL l (i - 1)) = i by omega]
  have e3 : [i].filter (pickU l i) = [] := by rw [List.filter_cons, pick_top e19]; rfl
  rw [e3, List.append_nil]
  refine List.filter_congr fun x hx => ?_
  refine (pick_congr ?_).symm
  constructor
  ·rintro ⟨k, g1, g2, g3, g4⟩
   rcases Nat.lt_or_ge k i with g6 | g6
   ·exact ⟨k, g1, by omega, g3, g4⟩
   ·obtain rfl : k = i := by omega
    exact absurd g3 e19
  ·rintro ⟨k, g1, g2, g3, g4⟩
   exact ⟨k, g1, by omega, g3, g4⟩
theorem start_root {l : List Nd} (h : mayL l = true) : startL l (l.length - 1) = 0 := by
 have h0 := may_ne h
 obtain ⟨m, hm⟩ : ∃ m, l.length = m + 1 := ⟨l.length - 1, by omega⟩
 have htop := may_top h
 have hT := tiles_upTo h l.length _ (Nat.le_refl _) htop
 exact hT.1.2.2.2
theorem tests_whole {l : List Nd} (h : regL l = true) : tsE (reL l l.length (l.length - 1)) = placesR l 19 := by
 have hm : mayL l = true := by unfold regL at h; rw [Bool.and_eq_true] at h; exact h.1
 have h0 := may_ne hm
 have hr : regKind (kindN l (l.length - 1)) = true := by
  have h1 := reg_last hm
  rw [h] at h1
  rw [← kindAt_N, lastKind_at h0]
  exact h1.symm
 unfold placesR
 rw [if_pos h, tests_part hm l.length (l.length - 1) (by omega) (by omega) hr, start_root hm]
 unfold placesL
 rw [List.range_eq_range', show l.length - 1 + 1 - 0 = l.length by omega]
 refine List.filter_congr fun x _ => ?_
 unfold pickU
 rw [Bool.eq_iff_iff, decide_eq_true_eq, Bool.and_eq_true, decide_eq_true_eq, Bool.not_eq_true', ← Bool.not_eq_true, inside_inU h0]
theorem num_place {l : List Nat} (hl : l.Nodup) {q y : Nat} (h : l[q]? = some y) : numT (idxI l) ((y : Nat) : Int) = (q : Int) := by
 obtain ⟨hq, e⟩ := List.getElem?_eq_some_iff.1 h
 refine num_at (by unfold idxI; rw [List.length_map]; exact hq) ?_ (fun m hm e2 => ?_)
 ·unfold idxI
  rw [List.getElem?_map, h]
  rfl
 ·unfold idxI at e2
  rw [List.getElem?_map, List.getElem?_eq_getElem (by omega)] at e2
  have e3 : ((l[m]'(by omega) : Nat) : Int) = (y : Int) := e2
  have e4 : l[m]'(by omega) = l[q] := by rw [e]; omega
  exact (List.pairwise_iff_getElem.1 hl) m q (by omega) hq hm e4
theorem way_tree (l : List Nd) (ts : List Int) (vs : Nat → List Nat) (ps : Nat → Nat → Prop) (n : Nat) : ∀ (f i k : Nat), (∀ q y, (tsE (reL l f i))[q]? = some y → ∀ p, p < n → (hasI (vs p) (numT ts ((y : Nat) : Int)) = true ↔ ps p (k + q))) →
  ∀ a b, wayP (rxOf l ts vs) n f i a b ↔ wayR ps n (reL l f i) k a b := by
 intro f
 induction f with
 | zero => intro i k _ a b; exact Iff.rfl
 | succ f ih =>
  intro i k hq a b
  have left : ∀ x y : RE, (∀ q z, (tsE x ++ tsE y)[q]? = some z → ∀ p, p < n → (hasI (vs p) (numT ts ((z : Nat) : Int)) = true ↔ ps p (k + q))) → ∀ q z, (tsE x)[q]? = some z → ∀ p, p < n → (hasI (vs p) (numT ts ((z : Nat) : Int)) = true ↔ ps p (k + q)) := fun x y hx q z hz => hx q z (by rw [List.getElem?_append_left (List.getElem?_eq_some_iff.1 hz).1]; exact hz)
  have right : ∀ x y : RE, (∀ q z, (tsE x ++ tsE y)[q]? = some z → ∀ p, p < n → (hasI (vs p) (numT ts ((z : Nat) : Int)) = true ↔ ps p (k + q))) → ∀ q z, (tsE y)[q]? = some z → ∀ p, p < n → (hasI (vs p) (numT ts ((z : Nat) : Int)) = true ↔ ps p (k + nts x + q)) := fun x y hx q z hz => by
   have := hx (nts x + q) z (by rw [← tsE_len, List.getElem?_append_right (by omega), show (tsE x).length + q - (tsE x).length = q by omega]; exact hz)
   rwa [← Nat.add_assoc] at this
  unfold reL at hq ⊢
  unfold wayP
  show (a < n ∧ b < n ∧ if kindN l i = 18 then _ else _) ↔ _
  by_cases e18 : kindN l i = 18
  ·rw [if_pos e18, if_pos e18]
   constructor
   ·rintro ⟨h1, h2, h3⟩; exact ⟨h3, h2⟩
   ·rintro ⟨h1, h2⟩; exact ⟨by omega, h2, h1⟩
  rw [if_neg e18] at hq ⊢
  rw [if_neg e18]
  have hkd : (rxOf l ts vs).kd i = kindN l i := rfl
  rw [hkd]
  by_cases e19 : kindN l i = 19
  ·rw [if_pos e19] at hq ⊢
   rw [if_pos e19]
   constructor
   ·rintro ⟨h1, h2, h3, h4⟩
    exact ⟨h3, h1, (hq 0 i rfl a h1).1 h4⟩
   ·rintro ⟨h1, h2, h3⟩
    exact ⟨h2, by omega, h1, (hq 0 i rfl a h2).2 h3⟩
  rw [if_neg e19] at hq ⊢
  rw [if_neg e19]
  have hk0 : (rxOf l ts vs).k0 i = kidN l i 0 := rfl
  have hk1 : (rxOf l ts vs).k1 i = kidN l i 1 := rfl
  rw [hk0, hk1]
  have on := fun x y (h : wayP (rxOf l ts vs) n f x a y) => (way_on (rxOf l ts vs) n f x a y h)
  by_cases e20 : kindN l i = 20
  ·rw [if_pos e20] at hq ⊢
   rw [if_pos e20]
   have ia := ih (kidN l i 0) k (left _ _ hq) a b
   have ib := ih (kidN l i 1) _ (right _ _ hq) a b
   constructor
   ·rintro ⟨h1, h2, h3 | h3⟩
    ·exact .inl (ia.1 h3)
    ·exact .inr (ib.1 h3)
   ·rintro (h3 | h3)
    ·have h3 := ia.2 h3
     exact ⟨(on _ _ h3).1, (on _ _ h3).2, .inl h3⟩
    ·have h3 := ib.2 h3
     exact ⟨(on _ _ h3).1, (on _ _ h3).2, .inr h3⟩
  rw [if_neg e20] at hq ⊢
  rw [if_neg e20]
  by_cases e21 : kindN l i = 21
  ·rw [if_pos e21] at hq ⊢
   rw [if_pos e21]
   have ia := ih (kidN l i 0) k (left _ _ hq)
   have ib := ih (kidN l i 1) _ (right _ _ hq)
   constructor
   ·rintro ⟨h1, h2, m, h3, h4⟩
    exact ⟨m, (ia a m).1 h3, (ib m b).1 h4⟩
   ·rintro ⟨m, h3, h4⟩
    have h3 := (ia a m).2 h3
    have h4 := (ib m b).2 h4
    exact ⟨(on _ _ h3).1, (way_on _ n f _ m b h4).2, m, h3, h4⟩
  rw [if_neg e21] at hq ⊢
  rw [if_neg e21]
  by_cases e22 : kindN l i = 22
  ·rw [if_pos e22] at hq ⊢
   rw [if_pos e22]
   have ia := ih (kidN l i 0) k hq
   constructor
   ·rintro ⟨h1, h2, h3⟩
    exact ⟨h1, chain_mono (fun a b => (ia a b).1) h3⟩
   ·rintro ⟨h1, h3⟩
    exact ⟨h1, chain_on (wayR_on ps n _ k) h3 h1, chain_mono (fun a b => (ia a b).2) h3⟩
  rw [if_neg e22] at hq ⊢
  rw [if_neg e22]
  exact ⟨fun h => h.2.2, fun h => h.elim⟩
def psV (vs : Nat → List Nat) (i k : Nat) : Prop := hasI (vs i) ((k : Nat) : Int) = true
theorem table_tree {l : List Nd} (h : regL l = true) (vs : Nat → List Nat) (n : Nat) {i j : Nat} (hi : i < n) (hj : j < n) : tableR l vs n i j = true ↔ wayR (psV vs) n (reL l l.length (l.length - 1)) 0 i j := by
 unfold tableR
 rw [reach_tells _ n _ _ i j hi hj]
 refine way_tree l _ vs (psV vs) n l.length (l.length - 1) 0 (fun q y hy p _ => ?_) i j
 rw [tests_whole h] at hy
 rw [num_place (List.Nodup.sublist (by unfold placesR; rw [if_pos h]; exact List.filter_sublist) List.nodup_range) hy, Nat.zero_add]
 rfl
end Go.Proofs.YtdbgaccnejffpaaGreatDoor.Paths
