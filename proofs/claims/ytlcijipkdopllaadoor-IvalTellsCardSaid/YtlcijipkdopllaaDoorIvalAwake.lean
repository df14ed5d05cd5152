/-
  The walk of awake of layer 3. By an AI agent.
-/
import Derived.Test.YtlcijipkdopllaaDoorIvalProg
import Derived.Deep.RegionHeld3
namespace Go.Proofs.YtlcijipkdopllaaDoor.Ival
open Go.RowKit Go.Proofs.YtlcijipkdopllaaDoor.Itoa

theorem text2 : textS 2 (-1) = { data := #[91, 50, 44, 42, 93] } := by decide +kernel
theorem class2 : classS 2 (-1) 6 = 2 ∧ classS 2 5 6 = -1 := by decide

set_option maxHeartbeats 1000000 in
theorem awake (w : World) (hT : Tab10 w) :
    Calls Tryd.prog 21 #[] w fun e w' => e = .returned (.bool true) ∧ Below w.heap.size w w' := by
  have h1 := fun W (hW : Tab10 W) => progText 2 (-1) W hW
  have h2 := fun W => progClass 2 (-1) 6 W (by omega)
  have h3 := fun W => progClass 2 5 6 W (by omega)
  rw [text2] at h1
  rw [class2.1] at h2
  rw [class2.2] at h3
  have H1 := Lib.hid h1
  have H2 := Lib.hid h2
  have H3 := Lib.hid h3
  clear h1 h2 h3
  go_enter Tryd.func21, Tryd.ntmps21
  have hB0 := (Below.refl w.heap.size w).alloc (Nat.le_refl _) (.cells #[.int .i64 2, .int .i64 (-1)] 23)
  go_wp2_with fail
  refine (H1.out _ (hT.later hB0)).mono ?_
  rintro e w1 ⟨rfl, hb⟩
  have hc0 := box0 hb
  have hc1 := box1 hb
  replace hB0 := hB0.trans (hb.mono (by simp))
  clear hb
  go_wp2_with fail
  refine (H2.out _).mono ?_
  rintro e w2 ⟨rfl, hb⟩
  replace hB0 := hB0.trans (hb.mono hB0.size)
  clear hb hc0 hc1
  go_wp2_with fail
  refine (H3.out _).mono ?_
  rintro e w3 ⟨rfl, hb⟩
  replace hB0 := hB0.trans (hb.mono hB0.size)
  clear hb
  go_wp2
  go_ret
  exact ⟨rfl, hB0⟩

end Go.Proofs.YtlcijipkdopllaaDoor.Ival
