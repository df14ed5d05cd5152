/-
  Later, and later again. Plain arithmetic. By an AI agent.
-/
import Derived.Test.YtlcijipkdopllaaDoorIvalMath
namespace Go.Proofs.YtlcijipkdopllaaDoor.Ival

theorem class_self {lo hi : Int} {c : Nat} (h : mayS lo hi = true) (h1 : (c : Int) < wideS lo hi) : classS lo hi c = c := by
  have hw := wide_may h
  have hc := class_may (d := c) h
  by_cases h2 : hi = -1
  · rw [hw.1 h2] at h1
    rw [hc.1 h2]; omega
  · rw [hw.2 h2] at h1
    exact hc.2.2 h2 (by omega)
theorem later_zero {lo hi : Int} {c : Int} (h0 : 0 ≤ c) (h1 : c < wideS lo hi) : laterS lo hi c 0 = c := by
  rw [later_in h0 h1, if_pos (by simp; omega)]
  simp
theorem later_class {lo hi : Int} {c : Nat} (d : Nat) (h : mayS lo hi = true) (h1 : (c : Int) < wideS lo hi) : laterS lo hi c d = classS lo hi (c + d) := by
  have e := class_self h h1
  have h2 := class_later c d h (by rw [e]; omega)
  rwa [e] at h2
theorem later_twice {lo hi : Int} {c : Nat} (d e : Nat) (h : mayS lo hi = true) (h1 : (c : Int) < wideS lo hi) : laterS lo hi (laterS lo hi c d) e = laterS lo hi c (d + e) := by
  rw [later_class d h h1, later_class (d + e) h h1]
  by_cases h2 : 0 ≤ classS lo hi (c + d)
  · rw [class_later (c + d) e h h2, Nat.add_assoc]
  · have hc := class_may (d := c + d) h
    have hc2 := class_may (d := c + (d + e)) h
    have hp := may_parts h
    have h3 : laterS lo hi (classS lo hi (c + d)) e = -1 := by
      unfold laterS
      rw [if_neg (by omega)]
    rw [h3]
    by_cases h4 : hi = -1
    · rw [hc.1 h4] at h2; omega
    · by_cases h5 : hi < ((c + d : Nat) : Int)
      · exact (hc2.2.1 h4 (by omega)).symm
      · rw [hc.2.2 h4 h5] at h2; omega
theorem later_open {lo hi : Int} {c : Nat} (d : Nat) (h : mayS lo hi = true) (h1 : (c : Int) < wideS lo hi) (ho : hi = -1) : 0 ≤ laterS lo hi c d := by
  have hp := may_parts h
  rw [later_class d h h1, (class_may (d := c + d) h).1 ho]
  omega
theorem wide_pos {lo hi : Int} (h : mayS lo hi = true) : 1 ≤ wideS lo hi := by
  have hw := wide_may h
  have hp := may_parts h
  by_cases h4 : hi = -1
  · rw [hw.1 h4]; omega
  · rw [hw.2 h4]; omega
end Go.Proofs.YtlcijipkdopllaaDoor.Ival
