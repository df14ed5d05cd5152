/-
  The walks of the landed ival's endless and May, for seats that hold May alone. By an AI agent.
-/
import Derived.Test.YtmahbocelckmcaaIvalMay
namespace Go.Proofs.Ytmahbocelckmcaa.Ival
open Go.RowKit

theorem progEndless (lo hi : Int) (w : World) :
    Calls Try.prog 97 #[span lo hi] w fun e w' => e = .returned (.bool (hi == -1)) ∧ Below w.heap.size w w' := by
  go_enter Try.func97, Try.ntmps97
  go_wp2
  go_ret
  exact ⟨rfl, (Below.refl _ _).alloc (Nat.le_refl _) _⟩

theorem progMay (lo hi : Int) (w : World) :
    Calls Try.prog 88 #[span lo hi] w fun e w' => e = .returned (.bool (mayS lo hi)) ∧ Below w.heap.size w w' := by
  have he := fun W => progEndless lo hi W
  rcases may_cases lo hi with ⟨h1, h⟩ | ⟨h1, h2, h⟩ | ⟨h1, h2, h3, h⟩ | ⟨h1, h2, h3, h4, h⟩ | ⟨h1, h2, h3, h4, h5, h⟩ | ⟨h1, h2, h3, h4, h5, h⟩
  case' inr.inr.inl =>
    subst h3
    have h3 : ((-1 : Int) == -1) = true := rfl
  case' inr.inr.inl | inr.inr.inr.inl | inr.inr.inr.inr.inl | inr.inr.inr.inr.inr =>
    rw [h3] at he
  all_goals
    rw [h]
    clear h
    have HE := Lib.hid he
    clear he
    go_enter Try.func88, Try.ntmps88
    go_wp2_with (go_at_call 97; refine (HE.out _).mono ?_; rintro e w' ⟨rfl, hb⟩; have hc0 := box0 hb; have hc1 := box1 hb)
    go_ret
    first
      | exact ⟨rfl, ((Below.refl _ _).alloc (Nat.le_refl _) _).trans (hb.mono (by simp))⟩
      | exact ⟨rfl, (Below.refl _ _).alloc (Nat.le_refl _) _⟩

end Go.Proofs.Ytmahbocelckmcaa.Ival
