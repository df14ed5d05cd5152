/-
  slices.Equal over ids, and the reference's SameEvent. By an AI agent.
-/
import Derived.Test.YtpcahfjejbiocaaIdsN
import Derived.Test.YtpcahfjejbiocaaShelf
namespace Go.Proofs.Ytpcahfjejbiocaa.Trace
open Go.RowKit Go.Proofs.Ytpcahfjejbiocaa.Ints Go.Proofs.Ytpcahfjejbiocaa.Mem

theorem equalInts (K1 K2 : Option Addr) (n1 c1 n2 c2 : Nat) (l1 l2 : List Int) (w : World) (h1 : Rd .i64 w K1 n1 l1) (h2 : Rd .i64 w K2 n2 l2) (hb1 : n1 ≤ maxLen) (hb2 : n2 ≤ maxLen) :
    Calls Try.prog 28 #[.slice K1 n1 c1, .slice K2 n2 c2] w fun e w' => e = .returned (.bool (decide (l1 = l2))) ∧ ∃ q, w' = w.drewN q := by
  have hm : maxLen = 9223372036854775807 := rfl
  by_cases hn : n1 = n2
  · subst hn
    by_cases h0 : n1 = 0
    · subst h0
      have e1 : l1 = [] := List.eq_nil_of_length_eq_zero h1.len
      have e2 : l2 = [] := List.eq_nil_of_length_eq_zero h2.len
      subst e1; subst e2
      exact (Try.slices_Equal_int_empty K1 K2 c1 0 c2 w (by omega)).mono fun e w' ⟨he, hw⟩ => ⟨he, 0, hw⟩
    · obtain ⟨b1, o1, rfl, k1⟩ := h1.cell (by omega)
      obtain ⟨b2, o2, rfl, k2⟩ := h2.cell (by omega)
      refine (Try.slices_Equal_int b1 o1 n1 c1 b2 o2 n1 c2 l1 l2 w (by rw [h1.len]; exact Nat.le_refl _) (by rw [h2.len]; exact Nat.le_refl _) (by omega) (by omega) (fun j hj => by have := k1 j (by rw [← h1.len]; exact hj); simpa [List.getD] using this) (fun j hj => by have := k2 j (by rw [← h2.len]; exact hj); simpa [List.getD] using this)).mono fun e w' ⟨he, hw⟩ => ⟨?_, hw⟩
      rw [he, List.take_of_length_le (by rw [h1.len]; exact Nat.le_refl _), List.take_of_length_le (by rw [h2.len]; exact Nat.le_refl _)]
      congr 2
      rw [Bool.eq_iff_iff, beq_iff_eq, decide_eq_true_iff]
  · have hne : decide (l1 = l2) = false := by
      rw [decide_eq_false_iff_not]
      intro e
      exact hn (by rw [← h1.len, ← h2.len, e])
    rw [hne]
    exact (Try.slices_Equal_int_lens K1 K2 n1 c1 n2 c2 w hn).mono fun e w' ⟨he, hw⟩ => ⟨he, 0, hw⟩

set_option maxHeartbeats 4000000 in
set_option maxRecDepth 100000 in
theorem refSameEvent (x y : Ev) (K1 K2 : Option Addr) (c1 c2 : Nat) (w : World) (hx : EvOk w x K1 c1) (hy : EvOk w y K2 c2) :
    Calls Try.prog 16 #[.agg #[.int .u64 x.time, .slice K1 x.ids.length c1], .agg #[.int .u64 y.time, .slice K2 y.ids.length c2]] w fun e w' => e = .returned (.bool (decide (x = y))) ∧ Below w.heap.size w w' := by
  have hE := fun W (hb : Below w.heap.size w W) => equalInts K1 K2 x.ids.length c1 y.ids.length c2 x.ids y.ids W (hx.2.1.below hb) (hy.2.1.below hb) (Nat.le_trans hx.2.2.1 hx.2.2.2) (Nat.le_trans hy.2.2.1 hy.2.2.2)
  have HX := Lib.hid hx
  obtain ⟨n1, hn1⟩ : ∃ n, x.ids.length = n := ⟨_, rfl⟩
  obtain ⟨n2, hn2⟩ : ∃ n, y.ids.length = n := ⟨_, rfl⟩
  obtain ⟨hx1, hx2⟩ := wf_u64 hx.1
  obtain ⟨hy1, hy2⟩ := wf_u64 hy.1
  rw [ev_eq, ← int_beq]
  rw [hn1, hn2] at hE ⊢
  obtain ⟨a, ha⟩ : ∃ a, x.time = a := ⟨_, rfl⟩
  obtain ⟨b, hb⟩ : ∃ b, y.time = b := ⟨_, rfl⟩
  rw [ha] at hx1 hx2
  rw [hb] at hy1 hy2
  rw [ha, hb]
  obtain ⟨r, hr⟩ : ∃ r, decide (x.ids = y.ids) = r := ⟨_, rfl⟩
  rw [hr] at hE ⊢
  have HE := Lib.hid hE
  clear hE hr hn1 hn2 hx hy ha hb
  rcases hab : (a == b)
  · go_enter Try.func16, Try.ntmps16
    go_wp2
    go_ret
    exact ⟨rfl, ((Below.refl _ _).alloc (Nat.le_refl _) _).alloc (le_alloc (Nat.le_refl _)) _⟩
  · go_enter Try.func16, Try.ntmps16
    go_wp2_with (go_at_call 28; refine (HE.out _ (((Below.refl _ _).alloc (Nat.le_refl _) _).alloc (le_alloc (Nat.le_refl _)) _)).mono ?_; rintro e w' ⟨rfl, q, rfl⟩)
    go_ret
    exact ⟨by simp, below_drewN (((Below.refl _ _).alloc (Nat.le_refl _) _).alloc (le_alloc (Nat.le_refl _)) _) _⟩

end Go.Proofs.Ytpcahfjejbiocaa.Trace
