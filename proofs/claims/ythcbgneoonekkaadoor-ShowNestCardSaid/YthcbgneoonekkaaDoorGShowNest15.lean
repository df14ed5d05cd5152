/-
  The walks of the landed ival's endless and May. By an AI agent.
  The walk of the landed ival's Text. By an AI agent.
-/
import Derived.Test.YthcbgneoonekkaaDoorGShowNest3
import Derived.Test.YthcbgneoonekkaaDoorGShowNest10
namespace Go.Proofs.YthcbgneoonekkaaDoor.Ival
open Go.RowKit

theorem progEndless (lo hi : Int) (w : World) :
    Calls Tryd.prog 43 #[span lo hi] w fun e w' => e = .returned (.bool (hi == -1)) ∧ Below w.heap.size w w' := by
  go_enter Tryd.func43, Tryd.ntmps43
  go_wp2
  go_ret
  exact ⟨rfl, (Below.refl _ _).alloc (Nat.le_refl _) _⟩

theorem progMay (lo hi : Int) (w : World) :
    Calls Tryd.prog 39 #[span lo hi] w fun e w' => e = .returned (.bool (mayS lo hi)) ∧ Below w.heap.size w w' := by
  have he := fun W => progEndless lo hi W
  rcases may_cases lo hi with ⟨h1, h⟩ | ⟨h1, h2, h⟩ | ⟨h1, h2, h3, h⟩ | ⟨h1, h2, h3, h4, h⟩ | ⟨h1, h2, h3, h4, h5, h⟩ | ⟨h1, h2, h3, h4, h5, h⟩
  case' inr.inr.inl =>
    subst h3
    have h3 : ((-1 : Int) == -1) = true := rfl
  case' inr.inr.inl | inr.inr.inr.inl | inr.inr.inr.inr.inl | inr.inr.inr.inr.inr =>
    rw [h3] at he
  all_goals
    rw [h]
    clear h
    have HE := Lib.hid he
    clear he
    go_enter Tryd.func39, Tryd.ntmps39
    go_wp2_with (go_at_call 43; refine (HE.out _).mono ?_; rintro e w' ⟨rfl, hb⟩; have hc0 := box0 hb; have hc1 := box1 hb)
    go_ret
    first
      | exact ⟨rfl, ((Below.refl _ _).alloc (Nat.le_refl _) _).trans (hb.mono (by simp))⟩
      | exact ⟨rfl, (Below.refl _ _).alloc (Nat.le_refl _) _⟩

end Go.Proofs.YthcbgneoonekkaaDoor.Ival

namespace Go.Proofs.YthcbgneoonekkaaDoor.Ival
open Go.RowKit Go.Proofs.YthcbgneoonekkaaDoor.Itoa

/-- The end, as it is written. -/
def endS (hi : Int) : ByteArray := if hi = -1 then { data := #[42] } else dec hi

theorem progEndText (lo hi : Int) (w : World) (h9 : hi = -1 ∨ 0 ≤ hi ∧ hi ≤ 9999) (hT : Tab10 w) :
    Calls Tryd.prog 45 #[span lo hi] w fun e w' => e = .returned (.string (endS hi)) ∧ Below w.heap.size w w' := by
  have he := fun W => progEndless lo hi W
  unfold endS
  by_cases h1 : hi = -1
  · subst h1
    rw [if_pos rfl]
    rw [show ((-1 : Int) == -1) = true from rfl] at he
    have HE := Lib.hid he
    clear he
    go_enter Tryd.func45, Tryd.ntmps45
    go_wp2_with (go_at_call 43; refine (HE.out _).mono ?_; rintro e w' ⟨rfl, hb⟩; have hc0 := box0 hb; have hc1 := box1 hb)
    go_ret
    exact ⟨rfl, ((Below.refl _ _).alloc (Nat.le_refl _) _).trans (hb.mono (by simp))⟩
  · rw [if_neg h1]
    rw [show (hi == -1) = false by simp [h1]] at he
    have HE := Lib.hid he
    have hr : -9223372036854775808 ≤ hi ∧ hi ≤ 9223372036854775807 := by omega
    have HT := Lib.hid (fun o W (hb : Below (w.alloc o).heap.size (w.alloc o) W) => (hT.later (((Below.refl _ _).alloc (Nat.le_refl _) o).trans (hb.mono (by simp)))))
    clear he h1 h9
    go_enter Tryd.func45, Tryd.ntmps45
    go_wp2_with (first
      | (go_at_call 43; refine (HE.out _).mono ?_; rintro e w' ⟨rfl, hb⟩; have hc0 := box0 hb; have hc1 := box1 hb)
      | (go_at_call 44; refine (itoa hi _ hr (HT.out _ _ hb)).mono ?_; rintro e w2 ⟨rfl, hb2⟩))
    go_ret
    exact ⟨rfl, (((Below.refl _ _).alloc (Nat.le_refl _) _).trans (hb.mono (by simp))).trans (hb2.mono (by have := hb.size; simp at this; omega))⟩

theorem endS_size (hi : Int) (h9 : hi = -1 ∨ 0 ≤ hi ∧ hi ≤ 9999) : (endS hi).size ≤ 21 := by
  unfold endS
  split
  · decide
  · exact dec_size hi (by omega)
theorem open_end (A : ByteArray) : A ++ { data := #[44, 42, 93] } = A ++ { data := #[44] } ++ { data := #[42] } ++ { data := #[93] } := by
  rw [ByteArray.append_assoc, ByteArray.append_assoc]
  rfl
theorem text_end {lo hi : Int} (h : mayS lo hi = true) : textS lo hi = { data := #[91] } ++ dec lo ++ { data := #[44] } ++ endS hi ++ { data := #[93] } := by
  unfold textS endS
  rw [if_pos h]
  split
  · exact open_end _
  · rfl

set_option maxHeartbeats 1000000 in
theorem progText (lo hi : Int) (w : World) (hT : Tab10 w) :
    Calls Tryd.prog 40 #[span lo hi] w fun e w' => e = .returned (.string (textS lo hi)) ∧ Below w.heap.size w w' := by
  have hm := fun W => progMay lo hi W
  rcases Bool.eq_false_or_eq_true (mayS lo hi) with h | h
  · rw [text_end h]
    obtain ⟨h1, h2, h3⟩ := may_parts h
    have h9 : hi = -1 ∨ 0 ≤ hi ∧ hi ≤ 9999 := by omega
    have he := fun W (hW : Tab10 W) => progEndText lo hi W h9 hW
    have hd2 := endS_size hi h9
    have hd := dec_size lo (by omega)
    have hr : -9223372036854775808 ≤ lo ∧ lo ≤ 9223372036854775807 := by omega
    rw [h] at hm
    obtain ⟨t, ht⟩ : ∃ t, endS hi = t := ⟨_, rfl⟩
    rw [ht] at he hd2 ⊢
    have HM := Lib.hid hm
    have HE := Lib.hid he
    have HT := Lib.hid (fun o W (hb : Below (w.alloc o).heap.size (w.alloc o) W) => (hT.later (((Below.refl _ _).alloc (Nat.le_refl _) o).trans (hb.mono (by simp)))))
    clear hm h he ht h1 h2 h3 h9
    go_enter Tryd.func40, Tryd.ntmps40
    go_wp2_with (go_at_call 39; refine (HM.out _).mono ?_; rintro e w' ⟨rfl, hb⟩; have hc0 := box0 hb; have hc1 := box1 hb)
    have hT1 := HT.out _ _ hb
    have hsz : w.heap.size ≤ w'.heap.size := by have := hb.size; simp at this; omega
    have HB := Lib.hid (((Below.refl w.heap.size w).alloc (Nat.le_refl _) _).trans (hb.mono (by simp)))
    clear hb HT HM
    go_region_with (first
      | (go_at_call 45; refine (HE.out _ (by first | exact hT1.later hb2 | exact (hT1.later (below_drewN (Below.refl _ _) _)).later hb2 | exact (show Tab10 _ from hT1).later hb2)).mono ?_; rintro e w3 ⟨rfl, hb3⟩)
      | (go_at_call 44; refine (itoa lo _ hr (by first | exact hT1 | exact hT1.later (below_drewN (Below.refl _ _) _))).mono ?_; rintro e w2 ⟨rfl, hb2⟩; have hc2 := keep_cell hb2 hc0; have hc3 := keep_cell hb2 hc1))
    all_goals
      go_wp2
      go_ret
      exact ⟨rfl, ((HB.out.drew).trans (hb2.mono hsz)).trans (hb3.mono (Nat.le_trans hsz hb2.size))⟩
  · rw [show textS lo hi = { data := #[] } by unfold textS; rw [h]; rfl]
    rw [h] at hm
    have HM := Lib.hid hm
    clear hm h
    go_enter Tryd.func40, Tryd.ntmps40
    go_wp2_with (go_at_call 39; refine (HM.out _).mono ?_; rintro e w' ⟨rfl, hb⟩; have hc0 := box0 hb; have hc1 := box1 hb)
    go_ret
    exact ⟨rfl, ((Below.refl _ _).alloc (Nat.le_refl _) _).trans (hb.mono (by simp))⟩

end Go.Proofs.YthcbgneoonekkaaDoor.Ival
