/-
  The tables of math/bits and internal/strconv: what a row that lists them gives the walks; a world in which they lie as their initialisers lay them. By an AI agent.
-/
import Derived.Test.YthadjopkfglecaaDoorRows
import Derived.Test.YthadjopkfglecaaDoorItoa
import Derived.Deep.DeepHandedRow
import Derived.LaidSub
import Derived.Lib.LaidTab
import Derived.Lib.TrailingZeros
namespace Go.Proofs.YthadjopkfglecaaDoor.IvalTab
open Go.RowKit

abbrev listed : List (String × DataW Unit) := [("math/bits.deBruijn32tab", Rows.laid_math_bits_deBruijn32tab), ("math/bits.deBruijn64tab", Rows.laid_math_bits_deBruijn64tab), ("internal/strconv.uint64pow10", Rows.laid_internal_strconv_uint64pow10)]
theorem gTab : Tryd.prog.globalNamed "internal/strconv.uint64pow10" = some 0 := by kernel_rfl
theorem gTabType : (Tryd.prog.globals[0]?).map (·.type) = some 51 := by kernel_rfl
theorem cellsTab : Tryd.prog.cellsOf 51 = 20 := by kernel_rfl
theorem cellsOne : Tryd.prog.cellsOf 40 = 1 := by kernel_rfl
theorem lone {W : World} (h : laidMetH Tryd.prog listed W) : laidMetH Tryd.prog [("internal/strconv.uint64pow10", Rows.laid_internal_strconv_uint64pow10)] W :=
  h.filter fun x => x.1 == "internal/strconv.uint64pow10"

set_option maxRecDepth 100000 in
theorem tab_of {W : World} (h : laidMetH Tryd.prog listed W) : Itoa.Tab10 W :=
  Lib.tabIs_of_head (rest := []) gTab gTabType Tryd.underlying51 Tryd.underlying40 cellsOne cellsTab (lone h)

/-- The cells, others. -/
def fill (vs : List Value) : Obj → Obj
  | .cells _ t frozen => .cells vs.toArray t frozen
  | o => o
/-- The settled world, the tables (blocks 0, 1, 2) as their initialisers lay them. -/
noncomputable def laidWorld (os : Os) : World :=
  { World.holding Tryd.prog os ⟨#[], #[], []⟩ with heap := (((World.holding Tryd.prog os ⟨#[], #[], []⟩).heap.modify 0 (fill (Lib.pow10Tab.map fun x => Value.int .u64 x))).modify 1 (fill (Lib.deBruijn32tab.map fun x => Value.int .u8 (Int.ofNat x)))).modify 2 (fill (Lib.deBruijn64tab.map fun x => Value.int .u8 (Int.ofNat x))) }
theorem laid_met (os : Os) : laidMet Tryd.prog listed ((laidWorld os).forCall (fun _ _ => 0) ⟨#[], #[.int .u16 0, .int .u16 0], []⟩).memory :=
  laidMet_of_run' 8 (by kernel_rfl) (by kernel_rfl)
end Go.Proofs.YthadjopkfglecaaDoor.IvalTab
