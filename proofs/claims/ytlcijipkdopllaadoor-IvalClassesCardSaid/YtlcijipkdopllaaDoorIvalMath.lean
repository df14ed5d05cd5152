/-
  What a class says: as much as a time. Plain arithmetic. By an AI agent.
-/
import Derived.Test.YtlcijipkdopllaaDoorIvalRef
namespace Go.Proofs.YtlcijipkdopllaaDoor.Ival

theorem wide_may {lo hi : Int} (h : mayS lo hi = true) : (hi = -1 → wideS lo hi = lo + 1) ∧ (¬ hi = -1 → wideS lo hi = hi + 1) := by
  unfold wideS
  rw [if_pos h]
  constructor
  · intro h1; rw [if_pos h1]
  · intro h1; rw [if_neg h1]
theorem class_may {lo hi : Int} {d : Nat} (h : mayS lo hi = true) : (hi = -1 → classS lo hi d = min (d : Int) lo) ∧ (¬ hi = -1 → hi < (d : Int) → classS lo hi d = -1) ∧ (¬ hi = -1 → ¬ hi < (d : Int) → classS lo hi d = d) := by
  unfold classS
  rw [if_pos h]
  refine ⟨fun h1 => by rw [if_pos h1], fun h1 h2 => by rw [if_neg h1, if_pos h2], fun h1 h2 => by rw [if_neg h1, if_neg h2]⟩
theorem class_in {lo hi : Int} (d : Nat) (h : mayS lo hi = true) : inS lo hi (classS lo hi d) = hasS lo hi d := by
  have hw := wide_may h
  have hc := class_may (d := d) h
  have hp := may_parts h
  unfold inS hasS
  rw [h, Bool.true_and]
  congr 1
  apply propext
  by_cases h1 : hi = -1
  · rw [hw.1 h1, hc.1 h1]; omega
  · by_cases h2 : hi < (d : Int)
    · rw [hw.2 h1, hc.2.1 h1 h2]; omega
    · rw [hw.2 h1, hc.2.2 h1 h2]; omega
theorem class_bounds {lo hi : Int} (d : Nat) (h : mayS lo hi = true) : -1 ≤ classS lo hi d ∧ classS lo hi d < wideS lo hi := by
  have hw := wide_may h
  have hc := class_may (d := d) h
  have hp := may_parts h
  by_cases h1 : hi = -1
  · rw [hw.1 h1, hc.1 h1]; omega
  · by_cases h2 : hi < (d : Int)
    · rw [hw.2 h1, hc.2.1 h1 h2]; omega
    · rw [hw.2 h1, hc.2.2 h1 h2]; omega
theorem later_in {lo hi c : Int} {d : Nat} (h0 : 0 ≤ c) (h1 : c < wideS lo hi) : laterS lo hi c d = if (d : Int) ≤ wideS lo hi - 1 - c then c + d else if hi = -1 then lo else -1 := by
  unfold laterS
  rw [if_pos ⟨h0, h1⟩]
theorem class_later {lo hi : Int} (d e : Nat) (h : mayS lo hi = true) (h0 : 0 ≤ classS lo hi d) : laterS lo hi (classS lo hi d) e = classS lo hi (d + e) := by
  have hw := wide_may h
  have hc := class_may (d := d) h
  have hc2 := class_may (d := d + e) h
  have hp := may_parts h
  rw [later_in h0 (class_bounds d h).2]
  by_cases h1 : hi = -1
  · rw [hw.1 h1, hc.1 h1, hc2.1 h1, if_pos h1]
    split <;> omega
  · by_cases h2 : hi < (d : Int)
    · rw [hc.2.1 h1 h2] at h0; omega
    · rw [hw.2 h1, hc.2.2 h1 h2, if_neg h1]
      by_cases h3 : hi < ((d + e : Nat) : Int)
      · rw [hc2.2.1 h1 h3, if_neg (by omega)]
      · rw [hc2.2.2 h1 h3, if_pos (by omega)]; omega
end Go.Proofs.YtlcijipkdopllaaDoor.Ival
