/-
  Sets of points as words: what the landed rounds reckon, bit by bit (stage 14). By an AI agent.
-/
import Derived.Test.YtcpmcgbjmncalaaGPathsLocal24
namespace Go.Proofs.Ytcpmcgbjmncalaa.Paths
open Go.RowKit Go.Proofs.Ytcpmcgbjmncalaa.Tree Go.Proofs.Ytcpmcgbjmncalaa.BitsWalks Go.Proofs.Ytcpmcgbjmncalaa.Words

theorem upd_bit (g : Nat → Nat) (u x p j : Nat) : ((updS g u (g u ||| x)) p).testBit j = true ↔ (g p).testBit j = true ∨ (p = u ∧ x.testBit j = true) := by
  unfold updS
  by_cases e : p = u
  · subst e
    rw [if_pos rfl, Nat.testBit_or, Bool.or_eq_true]
    exact ⟨fun h => h.imp id (fun h => ⟨rfl, h⟩), fun h => h.imp id (fun h => h.2)⟩
  · rw [if_neg e]
    exact ⟨.inl, fun h => h.elim id (fun h => absurd h.1 e)⟩
theorem steps_bit (h : Nat → Nat) (p j : Nat) : ∀ (sp : List Ed) (g : Nat → Nat), ((sp.foldl (fun g e => updS g e.1 (g e.1 ||| h e.2.1)) g) p).testBit j = true ↔ (g p).testBit j = true ∨ ∃ e ∈ sp, e.1 = p ∧ (h e.2.1).testBit j = true := by
  intro sp
  induction sp with
  | nil => intro g; simp
  | cons e sp ih =>
    intro g
    rw [List.foldl_cons, ih, upd_bit]
    constructor
    · rintro ((h1 | ⟨h1, h2⟩) | ⟨e2, h1, h2, h3⟩)
      · exact .inl h1
      · exact .inr ⟨e, List.mem_cons_self, h1.symm, h2⟩
      · exact .inr ⟨e2, List.mem_cons_of_mem _ h1, h2, h3⟩
    · rintro (h1 | ⟨e2, h1, h2, h3⟩)
      · exact .inl (.inl h1)
      · rcases List.mem_cons.1 h1 with rfl | h1
        · exact .inl (.inr ⟨h2.symm, h3⟩)
        · exact .inr ⟨e2, h1, h2, h3⟩
theorem stepG_bit (sp : List Ed) (h : Nat → Nat) (p j : Nat) : ((stepG sp h) p).testBit j = true ↔ ∃ e ∈ sp, e.1 = p ∧ (h e.2.1).testBit j = true := by
  unfold stepG
  rw [steps_bit]
  simp
theorem stay_bit (ok : Int → Bool) (g : Nat → Nat) (j : Nat) : ∀ (st : List Ed) (p : Nat), ((stayG ok st g) p).testBit j = true ↔ sw (fun t => ok t = true) st (fun p => (g p).testBit j = true) p := by
  intro st
  induction st with
  | nil => intro p; exact Iff.rfl
  | cons e st ih =>
    intro p
    have e0 : stayG ok (e :: st) g = stepE ok e (stayG ok st g) := rfl
    rw [e0, sw_cons]
    unfold stepE sw1
    by_cases h : ok e.2.2 = true
    · rw [if_pos h, upd_bit, ih p, ih e.2.1]
      exact ⟨fun h2 => h2.imp id (fun h2 => ⟨h2.1, h, h2.2⟩), fun h2 => h2.imp id (fun h2 => ⟨h2.1, h2.2.2⟩)⟩
    · rw [if_neg h, ih p]
      exact ⟨.inl, fun h2 => h2.elim id (fun h2 => absurd h2.2.1 h)⟩
def markG (i : Nat) (g : Nat → Nat) : Nat → Nat := updS g 1 (g 1 ||| 2 ^ i)
/-- What is known at a point, by what is known at the next one. -/
def pointG (st sp : List Ed) (vs : Nat → List Nat) (i : Nat) (h : Nat → Nat) : Nat → Nat := stayG (okB (vs i)) st (stayG (okB (vs i)) st (markG i (stepG sp h)))
def goalsF (st sp : List Ed) (vs : Nat → List Nat) {nv : Nat} (is : List (Ix nv)) : Nat → Nat := is.foldl (fun h i => pointG st sp vs i.1 h) (fun _ => 0)
theorem goalsF_snoc (st sp : List Ed) (vs : Nat → List Nat) {nv : Nat} (is : List (Ix nv)) (i : Ix nv) : goalsF st sp vs (is ++ [i]) = pointG st sp vs i.1 (goalsF st sp vs is) := by unfold goalsF; rw [List.foldl_append]; rfl
theorem ok_same (vs : Nat → List Nat) (i : Nat) : (fun t => okB (vs i) t = true) = okI (psV vs) i := by
  funext t
  apply propext
  unfold okB okI psV
  rw [Bool.or_eq_true, decide_eq_true_eq]
  constructor
  · rintro (h | h)
    · exact .inl h
    · unfold hasI at h
      rw [Bool.and_eq_true, decide_eq_true_eq] at h
      refine .inr ⟨t.toNat, by omega, ?_⟩
      unfold hasI
      rw [Bool.and_eq_true, decide_eq_true_eq, Int.toNat_natCast]
      exact ⟨by omega, h.2⟩
  · rintro (h | ⟨k, rfl, h⟩)
    · exact .inl h
    · exact .inr h
theorem goals_at (x : RE) (vs : Nat → List Nat) {nv j : Nat} : ∀ k, k ≤ nv → ∀ p, ((goalsF (stE x 0 1 2 0) (spE x 0 1 2) vs (dn nv k)) p).testBit j = true ↔ atB (psV vs) nv j x k p := by
  intro k
  induction k with
  | zero =>
    intro _ p
    show (0 : Nat).testBit j = true ↔ False
    simp
  | succ k ih =>
    intro hk p
    have h : nv - 1 - k < nv := by omega
    rw [dn_succ h, goalsF_snoc]
    unfold pointG atB
    rw [stay_bit, ok_same]
    have e1 : (fun p => ((stayG (okB (vs (nv - 1 - k))) (stE x 0 1 2 0) (markG (nv - 1 - k) (stepG (spE x 0 1 2) (goalsF (stE x 0 1 2 0) (spE x 0 1 2) vs (dn nv k))))) p).testBit j = true) = sw (okI (psV vs) (nv - 1 - k)) (stE x 0 1 2 0) (baseB (spE x 0 1 2) (atB (psV vs) nv j x k) (nv - 1 - k = j)) := by
      funext q
      apply propext
      rw [stay_bit, ok_same]
      have e2 : (fun p => ((markG (nv - 1 - k) (stepG (spE x 0 1 2) (goalsF (stE x 0 1 2 0) (spE x 0 1 2) vs (dn nv k)))) p).testBit j = true) = baseB (spE x 0 1 2) (atB (psV vs) nv j x k) (nv - 1 - k = j) := by
        funext r
        apply propext
        unfold markG baseB
        rw [upd_bit, stepG_bit, Nat.testBit_two_pow, decide_eq_true_eq]
        have e3 : ∀ e : Ed, ((goalsF (stE x 0 1 2 0) (spE x 0 1 2) vs (dn nv k)) e.2.1).testBit j = true ↔ atB (psV vs) nv j x k e.2.1 := fun e => ih (by omega) e.2.1
        simp only [e3]
      rw [e2]
    rw [e1]
/-- Is a number below 64 in a set of one word? -/
theorem has_one (x j : Nat) (hj : j < 64) : hasI [x] ((j : Nat) : Int) = x.testBit j := by
  unfold hasI has
  rw [decide_eq_true (by omega), Bool.true_and, Int.toNat_natCast, show j / 64 = 0 by omega, show j % 64 = j by omega]
  rfl
/-- **The landed row of a point tells its ways.** -/
theorem row_tells {l : List Nd} (h : regL l = true) (vs : Nat → List Nat) {nv i j : Nat} (hi : i < nv) (hj : j < nv) (hn : nv ≤ 64) : hasI [goalsF (stE (reOf l) 0 1 2 0) (spE (reOf l) 0 1 2) vs (dn nv (nv - i)) 0] ((j : Nat) : Int) = tableR l vs nv i j := by
  rw [has_one _ _ (by omega), Bool.eq_iff_iff, goals_at _ _ _ (by omega), table_tree h vs nv hi hj]
  exact atB_way (psV vs) nv j (reOf l) i hi hj
end Go.Proofs.Ytcpmcgbjmncalaa.Paths
