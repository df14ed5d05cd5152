/-
  Which nodes stand within a test's formula, told from the root down (stage 14). By an AI agent.
  Sets of points as words: what the landed rounds reckon, bit by bit (stage 14). By an AI agent.
-/
import Derived.Test.YtcpmcgbjmncalaaGPathsUnion30
namespace Go.Proofs.Ytcpmcgbjmncalaa.Paths
open Go.RowKit Go.Proofs.Ytcpmcgbjmncalaa.Ints Go.Proofs.Ytcpmcgbjmncalaa.Tree

/-- The kids of a node. -/
def kidsN (l : List Nd) (i : Nat) : List Int := (l[i]?.map (fun y : Nd => y.kids)).getD []
theorem kidsN_at {l : List Nd} {i : Nat} {n : Nd} (h : l[i]? = some n) : kidsN l i = n.kids := by unfold kidsN; rw [h]; rfl
theorem inside_iff {l : List Nd} {x : Nat} : insideB l x = true ↔ ∃ k, x < k ∧ k < l.length ∧ kindN l k = 19 ∧ startL l k ≤ x := by
  unfold insideB
  rw [List.any_eq_true]
  constructor
  · rintro ⟨k, hk, hc⟩
    rw [Bool.and_eq_true, Bool.and_eq_true, decide_eq_true_eq, decide_eq_true_eq, decide_eq_true_eq] at hc
    exact ⟨k, hc.1, List.mem_range.1 hk, hc.2.1, hc.2.2⟩
  · rintro ⟨k, h1, h2, h3, h4⟩
    exact ⟨k, List.mem_range.2 h2, by rw [decide_eq_true h1, decide_eq_true h3, decide_eq_true h4]; rfl⟩
/-- A node's kid, and what stands between it and the node. -/
theorem kid_between {l : List Nd} (h : mayL l = true) {q x : Nat} (hq : q < l.length) (hx : ((x : Nat) : Int) ∈ kidsN l q) : x < q ∧ startL l q ≤ x ∧ ∀ k, x < k → k < q → x < startL l k := by
  rcases kidc_ways (kindN l q) with e | e | e
  · obtain ⟨n, hn, e2⟩ := kind_some hq
    obtain ⟨st, -, hz, hl, -⟩ := node_over h hn
    rw [kidsN_at hn, hz] at hx
    rw [e2] at e
    rw [e] at hl
    rw [List.eq_nil_of_length_eq_zero hl] at hx
    cases hx
  · obtain ⟨n, hn, hk, h3, h4, -⟩ := node_one h hq e
    rw [kidsN_at hn, hk] at hx
    have hx := List.mem_singleton.1 hx
    obtain rfl : x = q - 1 := by omega
    refine ⟨by omega, by rw [h4]; exact start_within_self h (by omega), fun k h1 h2 => by omega⟩
  · obtain ⟨n, t, hn, hk, h3, h4, h5, -, -, h8, -⟩ := node_two h hq e
    rw [kidsN_at hn, hk] at hx
    have hu := start_within_self h (show q - 1 < l.length by omega)
    simp only [List.mem_cons, List.not_mem_nil, or_false] at hx
    rcases hx with hx | hx
    · obtain rfl : x = t := by omega
      refine ⟨by omega, by omega, fun k h1 h2 => ?_⟩
      have := (start_within h (q - 1) (by omega) k (by omega) (by omega)).1
      omega
    · obtain rfl : x = q - 1 := by omega
      exact ⟨by omega, by omega, fun k h1 h2 => by omega⟩
/-- Within a test's formula stands what is a test's kid, or a kid of such a one. -/
theorem inside_kid {l : List Nd} (h : mayL l = true) {q x : Nat} (hq : q < l.length) (hx : ((x : Nat) : Int) ∈ kidsN l q) : insideB l x = (insideB l q || decide (kindN l q = 19)) := by
  obtain ⟨h1, h2, h3⟩ := kid_between h hq hx
  rw [Bool.eq_iff_iff, Bool.or_eq_true, decide_eq_true_eq, inside_iff, inside_iff]
  constructor
  · rintro ⟨k, k1, k2, k3, k4⟩
    rcases Nat.lt_trichotomy k q with e | e | e
    · have := h3 k k1 e
      omega
    · subst e
      exact .inr k3
    · exact .inl ⟨k, e, k2, k3, by omega⟩
  · rintro (⟨k, k1, k2, k3, k4⟩ | e)
    · refine ⟨k, by omega, k2, k3, ?_⟩
      have := (start_within h k k2 q k4 (by omega)).1
      omega
    · exact ⟨q, h1, hq, e, h2⟩
/-- Each node but the root is a kid. -/
theorem has_parent {l : List Nd} (h : mayL l = true) : ∀ i, i < l.length → ∀ x, startL l i ≤ x → x < i → ∃ q, q ≤ i ∧ x < q ∧ ((x : Nat) : Int) ∈ kidsN l q := by
  intro i
  induction i using Nat.strongRecOn with
  | ind i ih =>
    intro hi x h1 h2
    rcases kidc_ways (kindN l i) with e | e | e
    · rw [node_leaf h hi e] at h1
      omega
    · obtain ⟨n, hn, hk, h3, h4, -⟩ := node_one h hi e
      by_cases hx : x = i - 1
      · exact ⟨i, Nat.le_refl _, h2, by rw [kidsN_at hn, hk, hx]; exact List.mem_singleton.2 rfl⟩
      · obtain ⟨q, q1, q2, q3⟩ := ih (i - 1) (by omega) (by omega) x (by omega) (by omega)
        exact ⟨q, by omega, q2, q3⟩
    · obtain ⟨n, t, hn, hk, h3, h4, h5, -, -, h8, -⟩ := node_two h hi e
      by_cases hx : x = i - 1
      · exact ⟨i, Nat.le_refl _, h2, by rw [kidsN_at hn, hk, hx]; simp⟩
      · by_cases hx2 : x = t
        · exact ⟨i, Nat.le_refl _, h2, by rw [kidsN_at hn, hk, hx2]; simp⟩
        · rcases Nat.lt_or_ge t x with h6 | h6
          · obtain ⟨q, q1, q2, q3⟩ := ih (i - 1) (by omega) (by omega) x (by omega) (by omega)
            exact ⟨q, by omega, q2, q3⟩
          · obtain ⟨q, q1, q2, q3⟩ := ih t (by omega) (by omega) x (by omega) (by omega)
            exact ⟨q, by omega, q2, q3⟩
theorem root_out {l : List Nd} : insideB l (l.length - 1) = false := by
  rw [← Bool.not_eq_true, inside_iff]
  rintro ⟨k, h1, h2, -⟩
  omega
/-! ### node by node -/
/-- A node's kids are marked. -/
def setKs (T : Nat → Bool) (ks : List Int) (b : Bool) : Nat → Bool := fun x => if ((x : Nat) : Int) ∈ ks then b else T x
def ownF (l : List Nd) (kd : Int) {n : Nat} (is : List (Ix n)) : (Nat → Bool) × List Nat :=
  is.foldl (fun s i => (setKs s.1 (kidsN l i.1) (s.1 i.1 || decide (kindN l i.1 = 19)), if decide (kindN l i.1 = kd) && !(s.1 i.1) then s.2 ++ [i.1] else s.2)) (fun _ => false, [])
theorem ownF_snoc (l : List Nd) (kd : Int) {n : Nat} (is : List (Ix n)) (i : Ix n) : ownF l kd (is ++ [i]) = (setKs (ownF l kd is).1 (kidsN l i.1) ((ownF l kd is).1 i.1 || decide (kindN l i.1 = 19)), if decide (kindN l i.1 = kd) && !((ownF l kd is).1 i.1) then (ownF l kd is).2 ++ [i.1] else (ownF l kd is).2) := by
  unfold ownF
  rw [List.foldl_append]
  rfl
theorem ownF_dn {l : List Nd} (h : mayL l = true) (kd : Int) {n : Nat} (hl : l.length = n) : ∀ k, k ≤ n → (∀ x, (∃ q, n - k ≤ q ∧ q < n ∧ ((x : Nat) : Int) ∈ kidsN l q) → (ownF l kd (dn n k)).1 x = insideB l x) ∧
    (∀ x, (¬ ∃ q, n - k ≤ q ∧ q < n ∧ ((x : Nat) : Int) ∈ kidsN l q) → (ownF l kd (dn n k)).1 x = false) ∧
    (ownF l kd (dn n k)).2 = ((List.range' (n - k) k).filter fun i => decide (kindN l i = kd) && !insideB l i).reverse := by
  intro k
  induction k with
  | zero =>
    intro _
    refine ⟨fun x ⟨q, h1, h2, _⟩ => by omega, fun x _ => rfl, ?_⟩
    rw [List.range'_zero]
    rfl
  | succ k ih =>
    intro hk
    obtain ⟨a1, a2, a3⟩ := ih (by omega)
    have hx : n - 1 - k < n := by omega
    obtain ⟨i, hi⟩ : ∃ i, n - 1 - k = i := ⟨_, rfl⟩
    have hin : i < n := by omega
    have hT : (ownF l kd (dn n k)).1 i = insideB l i := by
      by_cases hp : ∃ q, n - k ≤ q ∧ q < n ∧ ((i : Nat) : Int) ∈ kidsN l q
      · exact a1 i hp
      · rw [a2 i hp]
        by_cases er : i = l.length - 1
        · rw [er, root_out]
        · exfalso
          obtain ⟨q, q1, q2, q3⟩ := has_parent h (l.length - 1) (by omega) i (by rw [start_root h]; omega) (by omega)
          exact hp ⟨q, by omega, by omega, q3⟩
    rw [dn_succ hx, ownF_snoc]
    show (∀ x, _ → setKs (ownF l kd (dn n k)).1 (kidsN l (n - 1 - k)) ((ownF l kd (dn n k)).1 (n - 1 - k) || decide (kindN l (n - 1 - k) = 19)) x = insideB l x) ∧ (∀ x, _ → setKs (ownF l kd (dn n k)).1 (kidsN l (n - 1 - k)) ((ownF l kd (dn n k)).1 (n - 1 - k) || decide (kindN l (n - 1 - k) = 19)) x = false) ∧
      (if decide (kindN l (n - 1 - k) = kd) && !((ownF l kd (dn n k)).1 (n - 1 - k)) then (ownF l kd (dn n k)).2 ++ [n - 1 - k] else (ownF l kd (dn n k)).2) = _
    rw [hi, hT, a3]
    refine ⟨fun x hq => ?_, fun x hq => ?_, ?_⟩
    · unfold setKs
      by_cases hm : ((x : Nat) : Int) ∈ kidsN l i
      · rw [if_pos hm, inside_kid h (by omega) hm]
      · rw [if_neg hm]
        obtain ⟨q, q1, q2, q3⟩ := hq
        refine a1 x ⟨q, ?_, q2, q3⟩
        rcases Nat.lt_or_ge q (n - k) with e | e
        · obtain rfl : q = i := by omega
          exact absurd q3 hm
        · exact e
    · unfold setKs
      rw [if_neg (fun hm => hq ⟨i, by omega, hin, hm⟩)]
      exact a2 x (fun ⟨q, q1, q2, q3⟩ => hq ⟨q, by omega, q2, q3⟩)
    · have e1 : n - (k + 1) = i := by omega
      rw [e1, List.range'_succ, List.filter_cons, show i + 1 = n - k by omega]
      by_cases hc : (decide (kindN l i = kd) && !insideB l i) = true
      · rw [if_pos hc, if_pos hc, List.reverse_cons]
      · rw [if_neg hc, if_neg hc]
/-- **The nodes of a kind that are found are those that stand within no test's formula.** -/
theorem ownF_all {l : List Nd} (h : regL l = true) (kd : Int) : (ownF l kd (dn l.length l.length)).2.reverse = placesR l kd := by
  have hm : mayL l = true := by unfold regL at h; rw [Bool.and_eq_true] at h; exact h.1
  rw [(ownF_dn hm kd rfl l.length (Nat.le_refl _)).2.2, List.reverse_reverse]
  unfold placesR placesL
  rw [if_pos h, Nat.sub_self, List.range_eq_range']
end Go.Proofs.Ytcpmcgbjmncalaa.Paths

namespace Go.Proofs.Ytcpmcgbjmncalaa.Paths
open Go.RowKit Go.Proofs.Ytcpmcgbjmncalaa.Tree Go.Proofs.Ytcpmcgbjmncalaa.BitsWalks Go.Proofs.Ytcpmcgbjmncalaa.Words

theorem upd_bit (g : Nat → Nat) (u x p j : Nat) : ((updS g u (g u ||| x)) p).testBit j = true ↔ (g p).testBit j = true ∨ (p = u ∧ x.testBit j = true) := by
  unfold updS
  by_cases e : p = u
  · subst e
    rw [if_pos rfl, Nat.testBit_or, Bool.or_eq_true]
    exact ⟨fun h => h.imp id (fun h => ⟨rfl, h⟩), fun h => h.imp id (fun h => h.2)⟩
  · rw [if_neg e]
    exact ⟨.inl, fun h => h.elim id (fun h => absurd h.1 e)⟩
theorem steps_bit (h : Nat → Nat) (p j : Nat) : ∀ (sp : List Ed) (g : Nat → Nat), ((sp.foldl (fun g e => updS g e.1 (g e.1 ||| h e.2.1)) g) p).testBit j = true ↔ (g p).testBit j = true ∨ ∃ e ∈ sp, e.1 = p ∧ (h e.2.1).testBit j = true := by
  intro sp
  induction sp with
  | nil => intro g; simp
  | cons e sp ih =>
    intro g
    rw [List.foldl_cons, ih, upd_bit]
    constructor
    · rintro ((h1 | ⟨h1, h2⟩) | ⟨e2, h1, h2, h3⟩)
      · exact .inl h1
      · exact .inr ⟨e, List.mem_cons_self, h1.symm, h2⟩
      · exact .inr ⟨e2, List.mem_cons_of_mem _ h1, h2, h3⟩
    · rintro (h1 | ⟨e2, h1, h2, h3⟩)
      · exact .inl (.inl h1)
      · rcases List.mem_cons.1 h1 with rfl | h1
        · exact .inl (.inr ⟨h2.symm, h3⟩)
        · exact .inr ⟨e2, h1, h2, h3⟩
theorem stepG_bit (sp : List Ed) (h : Nat → Nat) (p j : Nat) : ((stepG sp h) p).testBit j = true ↔ ∃ e ∈ sp, e.1 = p ∧ (h e.2.1).testBit j = true := by
  unfold stepG
  rw [steps_bit]
  simp
theorem stay_bit (ok : Int → Bool) (g : Nat → Nat) (j : Nat) : ∀ (st : List Ed) (p : Nat), ((stayG ok st g) p).testBit j = true ↔ sw (fun t => ok t = true) st (fun p => (g p).testBit j = true) p := by
  intro st
  induction st with
  | nil => intro p; exact Iff.rfl
  | cons e st ih =>
    intro p
    have e0 : stayG ok (e :: st) g = stepE ok e (stayG ok st g) := rfl
    rw [e0, sw_cons]
    unfold stepE sw1
    by_cases h : ok e.2.2 = true
    · rw [if_pos h, upd_bit, ih p, ih e.2.1]
      exact ⟨fun h2 => h2.imp id (fun h2 => ⟨h2.1, h, h2.2⟩), fun h2 => h2.imp id (fun h2 => ⟨h2.1, h2.2.2⟩)⟩
    · rw [if_neg h, ih p]
      exact ⟨.inl, fun h2 => h2.elim id (fun h2 => absurd h2.2.1 h)⟩
def markG (i : Nat) (g : Nat → Nat) : Nat → Nat := updS g 1 (g 1 ||| 2 ^ i)
/-- What is known at a point, by what is known at the next one. -/
def pointG (st sp : List Ed) (vs : Nat → List Nat) (i : Nat) (h : Nat → Nat) : Nat → Nat := stayG (okB (vs i)) st (stayG (okB (vs i)) st (markG i (stepG sp h)))
def goalsF (st sp : List Ed) (vs : Nat → List Nat) {nv : Nat} (is : List (Ix nv)) : Nat → Nat := is.foldl (fun h i => pointG st sp vs i.1 h) (fun _ => 0)
theorem goalsF_snoc (st sp : List Ed) (vs : Nat → List Nat) {nv : Nat} (is : List (Ix nv)) (i : Ix nv) : goalsF st sp vs (is ++ [i]) = pointG st sp vs i.1 (goalsF st sp vs is) := by unfold goalsF; rw [List.foldl_append]; rfl
theorem ok_same (vs : Nat → List Nat) (i : Nat) : (fun t => okB (vs i) t = true) = okI (psV vs) i := by
  funext t
  apply propext
  unfold okB okI psV
  rw [Bool.or_eq_true, decide_eq_true_eq]
  constructor
  · rintro (h | h)
    · exact .inl h
    · unfold hasI at h
      rw [Bool.and_eq_true, decide_eq_true_eq] at h
      refine .inr ⟨t.toNat, by omega, ?_⟩
      unfold hasI
      rw [Bool.and_eq_true, decide_eq_true_eq, Int.toNat_natCast]
      exact ⟨by omega, h.2⟩
  · rintro (h | ⟨k, rfl, h⟩)
    · exact .inl h
    · exact .inr h
theorem goals_at (x : RE) (vs : Nat → List Nat) {nv j : Nat} : ∀ k, k ≤ nv → ∀ p, ((goalsF (stE x 0 1 2 0) (spE x 0 1 2) vs (dn nv k)) p).testBit j = true ↔ atB (psV vs) nv j x k p := by
  intro k
  induction k with
  | zero =>
    intro _ p
    show (0 : Nat).testBit j = true ↔ False
    simp
  | succ k ih =>
    intro hk p
    have h : nv - 1 - k < nv := by omega
    rw [dn_succ h, goalsF_snoc]
    unfold pointG atB
    rw [stay_bit, ok_same]
    have e1 : (fun p => ((stayG (okB (vs (nv - 1 - k))) (stE x 0 1 2 0) (markG (nv - 1 - k) (stepG (spE x 0 1 2) (goalsF (stE x 0 1 2 0) (spE x 0 1 2) vs (dn nv k))))) p).testBit j = true) = sw (okI (psV vs) (nv - 1 - k)) (stE x 0 1 2 0) (baseB (spE x 0 1 2) (atB (psV vs) nv j x k) (nv - 1 - k = j)) := by
      funext q
      apply propext
      rw [stay_bit, ok_same]
      have e2 : (fun p => ((markG (nv - 1 - k) (stepG (spE x 0 1 2) (goalsF (stE x 0 1 2 0) (spE x 0 1 2) vs (dn nv k)))) p).testBit j = true) = baseB (spE x 0 1 2) (atB (psV vs) nv j x k) (nv - 1 - k = j) := by
        funext r
        apply propext
        unfold markG baseB
        rw [upd_bit, stepG_bit, Nat.testBit_two_pow, decide_eq_true_eq]
        have e3 : ∀ e : Ed, ((goalsF (stE x 0 1 2 0) (spE x 0 1 2) vs (dn nv k)) e.2.1).testBit j = true ↔ atB (psV vs) nv j x k e.2.1 := fun e => ih (by omega) e.2.1
        simp only [e3]
      rw [e2]
    rw [e1]
/-- Is a number below 64 in a set of one word? -/
theorem has_one (x j : Nat) (hj : j < 64) : hasI [x] ((j : Nat) : Int) = x.testBit j := by
  unfold hasI has
  rw [decide_eq_true (by omega), Bool.true_and, Int.toNat_natCast, show j / 64 = 0 by omega, show j % 64 = j by omega]
  rfl
/-- **The landed row of a point tells its ways.** -/
theorem row_tells {l : List Nd} (h : regL l = true) (vs : Nat → List Nat) {nv i j : Nat} (hi : i < nv) (hj : j < nv) (hn : nv ≤ 64) : hasI [goalsF (stE (reOf l) 0 1 2 0) (spE (reOf l) 0 1 2) vs (dn nv (nv - i)) 0] ((j : Nat) : Int) = tableR l vs nv i j := by
  rw [has_one _ _ (by omega), Bool.eq_iff_iff, goals_at _ _ _ (by omega), table_tree h vs nv hi hj]
  exact atB_way (psV vs) nv j (reOf l) i hi hj
end Go.Proofs.Ytcpmcgbjmncalaa.Paths
