/-
  slices.Equal, at two slices that read as integers. By an AI agent.
-/
import Derived.Test.YtbehlceacgaebaaChecked
import Derived.Test.YtbehlceacgaebaaInts
import Derived.Test.YtbehlceacgaebaaShelf
namespace Go.Proofs.Ytbehlceacgaebaa.Tree
open Go.RowKit Go.Proofs.Ytbehlceacgaebaa.Ints

theorem equalInts (K1 K2 : Option Addr) (n1 c1 n2 c2 : Nat) (l1 l2 : List Int) (w : World) (h1 : Rd .i64 w K1 n1 l1) (h2 : Rd .i64 w K2 n2 l2) (hb1 : n1 ≤ maxLen) (hb2 : n2 ≤ maxLen) :
    Calls Try.prog 13 #[.slice K1 n1 c1, .slice K2 n2 c2] w fun e w' => e = .returned (.bool (decide (l1 = l2))) ∧ ∃ q, w' = w.drewN q := by
  have hm : maxLen = 9223372036854775807 := rfl
  by_cases hn : n1 = n2
  · subst hn
    by_cases h0 : n1 = 0
    · subst h0
      have e1 : l1 = [] := List.eq_nil_of_length_eq_zero h1.len
      have e2 : l2 = [] := List.eq_nil_of_length_eq_zero h2.len
      subst e1; subst e2
      exact (Try.slices_Equal_int_empty K1 K2 c1 0 c2 w (by omega)).mono fun e w' ⟨he, hw⟩ => ⟨he, 0, hw⟩
    · obtain ⟨b1, o1, rfl, k1⟩ := h1.cell (by omega)
      obtain ⟨b2, o2, rfl, k2⟩ := h2.cell (by omega)
      refine (Try.slices_Equal_int b1 o1 n1 c1 b2 o2 n1 c2 l1 l2 w (by rw [h1.len]; exact Nat.le_refl _) (by rw [h2.len]; exact Nat.le_refl _) (by omega) (by omega) (fun j hj => by have := k1 j (by rw [← h1.len]; exact hj); simpa [List.getD] using this) (fun j hj => by have := k2 j (by rw [← h2.len]; exact hj); simpa [List.getD] using this)).mono fun e w' ⟨he, hw⟩ => ⟨?_, hw⟩
      rw [he, List.take_of_length_le (by rw [h1.len]; exact Nat.le_refl _), List.take_of_length_le (by rw [h2.len]; exact Nat.le_refl _)]
      congr 2
      rw [Bool.eq_iff_iff, beq_iff_eq, decide_eq_true_iff]
  · have hne : decide (l1 = l2) = false := by
      rw [decide_eq_false_iff_not]
      intro e
      exact hn (by rw [← h1.len, ← h2.len, e])
    rw [hne]
    exact (Try.slices_Equal_int_lens K1 K2 n1 c1 n2 c2 w hn).mono fun e w' ⟨he, hw⟩ => ⟨he, 0, hw⟩

end Go.Proofs.Ytbehlceacgaebaa.Tree
