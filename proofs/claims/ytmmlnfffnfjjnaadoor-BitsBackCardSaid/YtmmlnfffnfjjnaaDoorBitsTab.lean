/-
  The table of math/bits: what a row that lists it gives the walks; a world in which it lies as its initialiser lays it. By an AI agent.
-/
import Derived.Test.YtmmlnfffnfjjnaaDoorRows
import Derived.Test.YtmmlnfffnfjjnaaDoorBitsList
import Derived.Deep.DeepHandedRow
import Derived.Lib.LaidTab
namespace Go.Proofs.YtmmlnfffnfjjnaaDoor.BitsTab
open Go.RowKit Go.Proofs.YtmmlnfffnfjjnaaDoor.RdW Go.Proofs.YtmmlnfffnfjjnaaDoor.BitsWalks

theorem gTab : Tryd.prog.globalNamed "math/bits.deBruijn64tab" = some 0 := by kernel_rfl
theorem gTabType : (Tryd.prog.globals[0]?).map (·.type) = some 46 := by kernel_rfl
theorem cellsTab : Tryd.prog.cellsOf 46 = 64 := by kernel_rfl
theorem cellsOne : Tryd.prog.cellsOf 5 = 1 := by kernel_rfl

set_option maxRecDepth 100000 in
theorem tabIs {W : World} (h : laidMetH Tryd.prog [("math/bits.deBruijn64tab", Rows.laid_math_bits_deBruijn64tab)] W) : Lib.TabIs Tryd.prog W "math/bits.deBruijn64tab" .u8 (ints Lib.deBruijn64tab) :=
  Lib.tabIs_of_head (rest := []) gTab gTabType Tryd.underlying46 Tryd.underlying5 cellsOne cellsTab h
theorem tab_of {W : World} (h : laidMetH Tryd.prog [("math/bits.deBruijn64tab", Rows.laid_math_bits_deBruijn64tab)] W) : Tab W := fun j hj => by
  have hc := (tabIs h).cell gTab j (by rw [ints_len]; exact hj)
  rw [List.getD, ints_at] at hc
  rw [hc, List.getD]

/-- The settled world, the table (block 0) as its initialiser lays it. -/
noncomputable def laidWorld (os : Os) : World :=
  { World.holding Tryd.prog os ⟨#[], #[], []⟩ with heap := (World.holding Tryd.prog os ⟨#[], #[], []⟩).heap.modify 0 fun
      | .cells _ t frozen => .cells ((Lib.deBruijn64tab.map fun x => Value.int .u8 (Int.ofNat x)).toArray) t frozen
      | o => o }
end Go.Proofs.YtmmlnfffnfjjnaaDoor.BitsTab
