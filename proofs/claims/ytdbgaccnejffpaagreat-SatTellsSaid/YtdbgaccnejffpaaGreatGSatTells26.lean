/-
  What the landed helpers reckon is the node's truth, kind by kind (stage 15). By an AI agent.
-/
import Derived.Test.YtdbgaccnejffpaaGreatGSatTells25
namespace Go.Proofs.YtdbgaccnejffpaaGreat.Sat
open Go.RowKit Go.Proofs.YtdbgaccnejffpaaGreat.Ints Go.Proofs.YtdbgaccnejffpaaGreat.Mem Go.Proofs.YtdbgaccnejffpaaGreat.Src Go.Proofs.YtdbgaccnejffpaaGreat.Paths Go.Proofs.YtdbgaccnejffpaaGreat.Late Go.Proofs.YtdbgaccnejffpaaGreat.Trace
section
variable {J : Jd} {k i j p : Nat} {lo hi : Int} {s t : Nat → Nat} {x : List UInt8} (hn : (tmOf J.t).n = J.n) (hp : p < J.n)
include hn hp
theorem tv_true (e : foI J.l k = .z 1 x) : tvB J k p = true := tv_eq (by rw [e]; exact ⟨fun _ => rfl, fun _ => sem_true (by omega) x⟩)
omit hn hp in
theorem tv_false (e : foI J.l k = .z 2 x) : tvB J k p = false := tv_eq (by rw [e]; exact ⟨fun h => absurd h (sem_false x), fun h => by cases h⟩)
theorem tv_prop (e : foI J.l k = .z 3 x) : tvB J k p = holdsT J.t ((p : Nat) : Int) x := tv_eq (by
 rw [e]
 constructor
 ·rintro h
  rcases (show p = p ∧ p < (tmOf J.t).n ∧ leafP (tmOf J.t) 3 x p from h).2.2 with e | e
  ·exact absurd e (by decide)
  ·exact e.2
 ·intro h
  exact ⟨rfl, by omega, .inr ⟨rfl, h⟩⟩)
theorem tv_not (e : foI J.l k = .o 4 lo hi (foI J.l i)) : tvB J k p = !(tvB J i p) := tv_eq (by
 rw [e, sem_not (by omega), ← tv_iff, Bool.not_eq_true', Bool.not_eq_true])
theorem tv_both {K : Int} (hK : K = 5 ∨ K = 6 ∨ K = 7) (e : foI J.l k = .t K lo hi (foI J.l i) (foI J.l j)) : tvB J k p = bothB K (tvB J i p) (tvB J j p) := tv_eq (by
 rw [e]
 rcases hK with rfl | rfl | rfl
 ·rw [sem_and (by omega), ← tv_iff, ← tv_iff]
  show _ ↔ (tvB J i p && tvB J j p) = true
  rw [Bool.and_eq_true]
 ·rw [sem_or (by omega), ← tv_iff, ← tv_iff]
  show _ ↔ (tvB J i p || tvB J j p) = true
  rw [Bool.or_eq_true]
 ·rw [sem_imp (by omega), ← tv_iff, ← tv_iff]
  show _ ↔ (!(tvB J i p) || tvB J j p) = true
  cases tvB J i p <;> simp)
theorem tv_prev (e : foI J.l k = .o 8 lo hi (foI J.l i)) : tvB J k p = prevB J lo hi (tvB J i) p := tv_eq (by
 rw [e, sem_prev (by omega), ← tv_iff]
 unfold prevB
 rw [Bool.and_eq_true, Bool.and_eq_true, decide_eq_true_eq]
 exact and_congr_right fun _ => ⟨fun h => ⟨h.2, h.1⟩, fun h => ⟨h.2, h.1⟩⟩)
theorem tv_next (e : foI J.l k = .o 9 lo hi (foI J.l i)) : tvB J k p = nextB J lo hi (tvB J i) p := tv_eq (by
 rw [e, sem_next (by omega), ← tv_iff, hn]
 unfold nextB
 rw [Bool.and_eq_true, Bool.and_eq_true, decide_eq_true_eq]
 exact and_congr_right fun _ => ⟨fun h => ⟨h.2, h.1⟩, fun h => ⟨h.2, h.1⟩⟩)
theorem tv_once (hP : PastS (tmOf J.t) lo hi p (s p) (t p)) (e : foI J.l k = .o 10 lo hi (foI J.l i)) : tvB J k p = someB (tvB J i) s t p := tv_eq (by
 rw [e, sem_once (by omega), someB_iff]
 obtain ⟨-, -, h3, -, h5⟩ := hP
 constructor
 ·rintro ⟨q, q1, q2, q3⟩
  obtain ⟨q4, q5⟩ := (h5 q q1).2 q2
  exact ⟨q, q4, q5, (tv_iff J i q).2 q3⟩
 ·rintro ⟨q, q1, q2, q3⟩
  exact ⟨q, by omega, (h5 q (by omega)).1 ⟨q1, q2⟩, (tv_iff J i q).1 q3⟩)
theorem tv_hist (hP : PastS (tmOf J.t) lo hi p (s p) (t p)) (e : foI J.l k = .o 11 lo hi (foI J.l i)) : tvB J k p = allB (tvB J i) s t p := tv_eq (by
 rw [e, sem_hist (by omega), allB_iff]
 obtain ⟨-, -, h3, -, h5⟩ := hP
 constructor
 ·intro h q q1 q2
  exact (tv_iff J i q).2 (h q (by omega) ((h5 q (by omega)).1 ⟨q1, q2⟩))
 ·intro h q q1 q2
  obtain ⟨q4, q5⟩ := (h5 q q1).2 q2
  exact (tv_iff J i q).1 (h q q4 q5))
theorem tv_some (hP : FutS (tmOf J.t) lo hi p (s p) (t p)) (e : foI J.l k = .o 12 lo hi (foI J.l i)) : tvB J k p = someB (tvB J i) s t p := tv_eq (by
 rw [e, sem_some (by omega), someB_iff]
 obtain ⟨h1, -, -, h3, -, h5⟩ := hP
 constructor
 ·rintro ⟨q, q1, q0, q2, q3⟩
  obtain ⟨q4, q5⟩ := (h5 q q1 q0).2 q2
  exact ⟨q, q4, q5, (tv_iff J i q).2 q3⟩
 ·rintro ⟨q, q1, q2, q3⟩
  exact ⟨q, by omega, by omega, (h5 q (by omega) (by omega)).1 ⟨q1, q2⟩, (tv_iff J i q).1 q3⟩)
theorem tv_all (hP : FutS (tmOf J.t) lo hi p (s p) (t p)) (e : foI J.l k = .o 13 lo hi (foI J.l i)) : tvB J k p = allB (tvB J i) s t p := tv_eq (by
 rw [e, sem_all (by omega), allB_iff]
 obtain ⟨h1, -, -, h3, -, h5⟩ := hP
 constructor
 ·intro h q q1 q2
  exact (tv_iff J i q).2 (h q (by omega) (by omega) ((h5 q (by omega) (by omega)).1 ⟨q1, q2⟩))
 ·intro h q q1 q0 q2
  obtain ⟨q4, q5⟩ := (h5 q q1 q0).2 q2
  exact (tv_iff J i q).1 (h q q4 q5))
theorem tv_since (hP : PastS (tmOf J.t) lo hi p (s p) (t p)) (e : foI J.l k = .t 14 lo hi (foI J.l i) (foI J.l j)) : tvB J k p = someB (tvB J j) (fun q => max (s q) (lastN (tvB J i) q)) t p := tv_eq (by
 rw [e, sem_since (by omega), someB_iff]
 obtain ⟨-, -, h3, -, h5⟩ := hP
 constructor
 ·rintro ⟨q, q1, q2, q3, q6⟩
  obtain ⟨q4, q5⟩ := (h5 q q1).2 q2
  have := (lastN_iff (tvB J i) p q q1).2 (fun x x1 x2 => (tv_iff J i x).2 (q6 x x1 x2))
  exact ⟨q, by show max (s p) (lastN (tvB J i) p) ≤ q; omega, q5, (tv_iff J j q).2 q3⟩
 ·rintro ⟨q, q1, q2, q3⟩
  have q1 : max (s p) (lastN (tvB J i) p) ≤ q := q1
  have hl := (lastN_iff (tvB J i) p q (by omega)).1 (by omega)
  exact ⟨q, by omega, (h5 q (by omega)).1 ⟨by omega, q2⟩, (tv_iff J j q).1 q3, fun x x1 x2 => (tv_iff J i x).1 (hl x x1 x2)⟩)
theorem tv_until (hP : FutS (tmOf J.t) lo hi p (s p) (t p)) (e : foI J.l k = .t 15 lo hi (foI J.l i) (foI J.l j)) : tvB J k p = someB (tvB J j) s (fun q => min (t q) (nextU (tvB J i) J.n (J.n - q))) p := tv_eq (by
 rw [e, sem_until (by omega), someB_iff]
 obtain ⟨h1, -, -, h3, -, h5⟩ := hP
 constructor
 ·rintro ⟨q, q1, q0, q2, q3, q6⟩
  obtain ⟨q4, q5⟩ := (h5 q q1 q0).2 q2
  have := (nextU_iff (tvB J i) J.n (J.n - p) (by omega) q (by omega) (by omega)).2 (fun x x1 x2 => (tv_iff J i x).2 (q6 x (by omega) x2))
  exact ⟨q, q4, by show q < min (t p) (nextU (tvB J i) J.n (J.n - p)); omega, (tv_iff J j q).2 q3⟩
 ·rintro ⟨q, q1, q2, q3⟩
  have q2 : q < min (t p) (nextU (tvB J i) J.n (J.n - p)) := q2
  have hl := (nextU_iff (tvB J i) J.n (J.n - p) (by omega) q (by omega) (by omega)).1 (by omega)
  exact ⟨q, by omega, by omega, (h5 q (by omega) (by omega)).1 ⟨q1, by omega⟩, (tv_iff J j q).1 q3, fun x x1 x2 => (tv_iff J i x).1 (hl x (by omega) x2)⟩)
omit hp in
theorem tv_back (hp : p < J.n) (hP : PastS (tmOf J.t) lo hi p (s p) (t p)) (e : foI J.l k = .o 16 lo hi (foI J.l i)) : tvB J k p = true ↔ ∃ q, s p ≤ q ∧ q < t p ∧ sem (tmOf J.t) (foI J.l i) q p := by
 rw [tv_iff, e, sem_back (by omega)]
 obtain ⟨-, -, h3, -, h5⟩ := hP
 constructor
 ·rintro ⟨q, q1, q2, q3⟩
  obtain ⟨q4, q5⟩ := (h5 q q1).2 q2
  exact ⟨q, q4, q5, q3⟩
 ·rintro ⟨q, q1, q2, q3⟩
  exact ⟨q, by omega, (h5 q (by omega)).1 ⟨q1, q2⟩, q3⟩
omit hp in
theorem tv_fore (hp : p < J.n) (hP : FutS (tmOf J.t) lo hi p (s p) (t p)) (e : foI J.l k = .o 17 lo hi (foI J.l i)) : tvB J k p = true ↔ ∃ q, s p ≤ q ∧ q < t p ∧ sem (tmOf J.t) (foI J.l i) p q := by
 rw [tv_iff, e, sem_fore (by omega)]
 obtain ⟨h1, -, -, h3, -, h5⟩ := hP
 constructor
 ·rintro ⟨q, q1, q0, q2, q3⟩
  obtain ⟨q4, q5⟩ := (h5 q q1 q0).2 q2
  exact ⟨q, q4, q5, q3⟩
 ·rintro ⟨q, q1, q2, q3⟩
  exact ⟨q, by omega, by omega, (h5 q (by omega) (by omega)).1 ⟨q1, q2⟩, q3⟩
theorem tv_test (e : foI J.l k = .o 19 lo hi (foI J.l i)) : tvB J k p = tvB J i p := tv_eq (by
 rw [e, sem_test, tv_iff]
 exact ⟨fun h => h.2.2, fun h => ⟨rfl, by omega, h⟩⟩)
end
end Go.Proofs.YtdbgaccnejffpaaGreat.Sat
