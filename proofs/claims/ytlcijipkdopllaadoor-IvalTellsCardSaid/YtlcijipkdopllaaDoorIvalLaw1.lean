/-
  The walk of the law IvalTells. By an AI agent.
-/
import Derived.Test.YtlcijipkdopllaaDoorIvalAwake
import Derived.Deep.RegionHeld3
namespace Go.Proofs.YtlcijipkdopllaaDoor.Ival
open Go.RowKit Go.Proofs.YtlcijipkdopllaaDoor.Itoa

theorem sp_keep {w w1 w2 : World} {g : Nat} {lo hi : Int} (hb : Below w1.heap.size w1 w2) (h0 : w1.cell? ⟨g, 0, none⟩ = some (.int .i64 lo)) (h1 : w1.cell? ⟨g, 1, none⟩ = some (.int .i64 hi)) (hT : Tab10 w1) (hB : Below g w w1) (hg : g ≤ w.heap.size) :
    w2.cell? ⟨g, 0, none⟩ = some (.int .i64 lo) ∧ w2.cell? ⟨g, 1, none⟩ = some (.int .i64 hi) ∧ Tab10 w2 ∧ Below g w w2 :=
  ⟨keep_cell hb h0, keep_cell hb h1, hT.later hb, hB.trans (hb.mono (Nat.le_trans hg hB.size))⟩

set_option maxHeartbeats 4000000 in
theorem lawTells (lo hi c : Int) (d : Nat) (w : World) (hd : d < 18446744073709551616) (hT : Tab10 w) :
    Calls Tryd.prog 3 #[span lo hi, .int .u64 d, .int .i64 c] w fun e w' => e = .returned (.bool true) ∧ Below w.heap.size w w' := by
  go_enter Tryd.func3, Tryd.ntmps3
  go_wp2
  have hc0 : (w.alloc (.cells #[.int .i64 lo, .int .i64 hi] 23)).cell? ⟨w.heap.size, 0, none⟩ = some (.int .i64 lo) := by rw [cell_of_row _ w.heap.size 0 _ _ (0, 0) (heap_alloc_new w _)]; rfl
  have hc1 : (w.alloc (.cells #[.int .i64 lo, .int .i64 hi] 23)).cell? ⟨w.heap.size, 1, none⟩ = some (.int .i64 hi) := by rw [cell_of_row _ w.heap.size 1 _ _ (0, 0) (heap_alloc_new w _)]; rfl
  have hB0 : Below w.heap.size w (w.alloc (.cells #[.int .i64 lo, .int .i64 hi] 23)) := (Below.refl _ _).alloc (Nat.le_refl _) _
  have hT0 := hT.later hB0
  generalize w.alloc (.cells #[.int .i64 lo, .int .i64 hi] 23) = w0 at *
  go_region_held3 (fun w' => w'.cell? ⟨w.heap.size, 0, none⟩ = some (.int .i64 lo) ∧ w'.cell? ⟨w.heap.size, 1, none⟩ = some (.int .i64 hi) ∧ Tab10 w' ∧ Below w.heap.size w w')
    (first
      | exact ⟨hc0, hc1, hT0, hB0⟩
      | exact ⟨hc0, hc1, hT0, hB0.drew⟩
      | (go_split_ands; exact sp_keep hb (by assumption) (by assumption) (by assumption) (by assumption) (Nat.le_refl _))
      | fail)
    (first
      | (go_at_call 7; refine (progMay lo hi _).mono ?_; rintro e w' ⟨rfl, hb⟩)
      | (go_at_call 8; refine (refMay lo hi _).mono ?_; rintro e w' ⟨rfl, hb⟩)
      | (go_at_call 9; refine (progHas lo hi d _ hd).mono ?_; rintro e w' ⟨rfl, hb⟩)
      | (go_at_call 10; refine (refHas lo hi d _ hd).mono ?_; rintro e w' ⟨rfl, hb⟩)
      | (go_at_call 11; go_split_ands; refine (progText lo hi _ (by assumption)).mono ?_; rintro e w' ⟨rfl, hb⟩)
      | (go_at_call 12; go_split_ands; refine (refText lo hi _ (by assumption)).mono ?_; rintro e w' ⟨rfl, hb⟩)
      | (go_at_call 13; refine (progWide lo hi _).mono ?_; rintro e w' ⟨rfl, hb⟩)
      | (go_at_call 14; refine (refWide lo hi _).mono ?_; rintro e w' ⟨rfl, hb⟩)
      | (go_at_call 15; refine (progClass lo hi d _ hd).mono ?_; rintro e w' ⟨rfl, hb⟩)
      | (go_at_call 16; refine (refClass lo hi d _ hd).mono ?_; rintro e w' ⟨rfl, hb⟩)
      | (go_at_call 17; refine (progIn lo hi c _).mono ?_; rintro e w' ⟨rfl, hb⟩)
      | (go_at_call 18; refine (refIn lo hi c _).mono ?_; rintro e w' ⟨rfl, hb⟩)
      | (go_at_call 19; refine (progLater lo hi c d _ hd).mono ?_; rintro e w' ⟨rfl, hb⟩)
      | (go_at_call 20; refine (refLater lo hi c d _ hd).mono ?_; rintro e w' ⟨rfl, hb⟩)
      | (go_at_call 21; go_split_ands; refine (awake _ (by assumption)).mono ?_; rintro e w' ⟨rfl, hb⟩))
  go_split_ands
  go_wp2
  go_ret
  exact ⟨rfl, by assumption⟩
end Go.Proofs.YtlcijipkdopllaaDoor.Ival
