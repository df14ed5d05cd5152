/-
  The walk of the reference's SpanText. By an AI agent.
-/
import Derived.Test.YtlcijipkdopllaaDoorIvalRef
import Derived.Test.YtlcijipkdopllaaDoorItoa
import Derived.RegionTactic
import Derived.Deep.RegionWith
import Derived.BigRegion
namespace Go.Proofs.YtlcijipkdopllaaDoor.Ival
open Go.RowKit Go.Proofs.YtlcijipkdopllaaDoor.Itoa

/-- A span as it is written. -/
def textS (lo hi : Int) : ByteArray :=
  if mayS lo hi = true then (if hi = -1 then { data := #[91] } ++ dec lo ++ { data := #[44, 42, 93] } else { data := #[91] } ++ dec lo ++ { data := #[44] } ++ dec hi ++ { data := #[93] }) else { data := #[] }

set_option maxHeartbeats 1000000 in
theorem refText (lo hi : Int) (w : World) (hT : Tab10 w) :
    Calls Tryd.prog 12 #[span lo hi] w fun e w' => e = .returned (.string (textS lo hi)) ∧ Below w.heap.size w w' := by
  have hm := fun W => refMay lo hi W
  unfold textS
  rcases may_ways lo hi with h | ⟨h, h1, h2, h3⟩ | ⟨h, h1, h0, h2, h3, h4⟩
  · rw [h] at hm ⊢
    have HM := Lib.hid hm
    clear hm h
    go_enter Tryd.func12, Tryd.ntmps12
    go_wp2_with (go_at_call 8; refine (HM.out _).mono ?_; rintro e w' ⟨rfl, hb⟩; have hc0 := box0 hb; have hc1 := box1 hb)
    go_ret
    exact ⟨rfl, ((Below.refl _ _).alloc (Nat.le_refl _) _).trans (hb.mono (by simp))⟩
  · subst h1
    rw [h] at hm ⊢
    rw [if_pos rfl, if_pos rfl]
    have HM := Lib.hid hm
    have hd := dec_size lo (by omega)
    have HT := Lib.hid (fun o W (hb : Below (w.alloc o).heap.size (w.alloc o) W) => (hT.later (((Below.refl _ _).alloc (Nat.le_refl _) o).trans (hb.mono (by simp)))))
    clear hm h
    go_enter Tryd.func12, Tryd.ntmps12
    go_wp2_with (first
      | (go_at_call 8; refine (HM.out _).mono ?_; rintro e w' ⟨rfl, hb⟩; have hc0 := box0 hb; have hc1 := box1 hb)
      | (go_at_call 24; refine (itoa lo _ (by omega) (HT.out _ _ hb)).mono ?_; rintro e w2 ⟨rfl, hb2⟩))
    go_ret
    exact ⟨rfl, (((Below.refl _ _).alloc (Nat.le_refl _) _).trans (hb.mono (by simp))).trans (hb2.mono (by have := hb.size; simp at this; omega))⟩
  · rw [h] at hm ⊢
    rw [if_pos rfl, if_neg h0]
    have HM := Lib.hid hm
    have hd := dec_size lo (by omega)
    have hd2 := dec_size hi (by omega)
    have HT := Lib.hid (fun o W (hb : Below (w.alloc o).heap.size (w.alloc o) W) => (hT.later (((Below.refl _ _).alloc (Nat.le_refl _) o).trans (hb.mono (by simp)))))
    clear hm h h0
    go_enter Tryd.func12, Tryd.ntmps12
    go_wp2_with (go_at_call 8; refine (HM.out _).mono ?_; rintro e w' ⟨rfl, hb⟩; have hc0 := box0 hb; have hc1 := box1 hb)
    have hT1 := HT.out _ _ hb
    have hsz : w.heap.size ≤ w'.heap.size := by have := hb.size; simp at this; omega
    have HB := Lib.hid (((Below.refl w.heap.size w).alloc (Nat.le_refl _) _).trans (hb.mono (by simp)))
    clear hb HT HM
    go_region_with (first
      | (go_at_call 24; refine (itoa hi _ (by omega) (by first | exact hT1.later hb2 | exact (hT1.later (below_drewN (Below.refl _ _) _)).later hb2 | exact (show Tab10 _ from hT1).later hb2)).mono ?_; rintro e w3 ⟨rfl, hb3⟩)
      | (go_at_call 24; refine (itoa lo _ (by omega) (by first | exact hT1 | exact hT1.later (below_drewN (Below.refl _ _) _))).mono ?_; rintro e w2 ⟨rfl, hb2⟩; have hc2 := keep_cell hb2 hc0; have hc3 := keep_cell hb2 hc1))
    all_goals
      go_wp2
      go_ret
      exact ⟨rfl, ((HB.out.drew).trans (hb2.mono hsz)).trans (hb3.mono (Nat.le_trans hsz hb2.size))⟩
end Go.Proofs.YtlcijipkdopllaaDoor.Ival
