/-
  The tables of math/bits and internal/strconv and the kinds' words: what a row that lists them gives the walks; a world in which they lie as their initialisers lay them. By an AI agent.
-/
import Derived.Test.YthcbgneoonekkaaDoorRows
import Derived.Test.YthcbgneoonekkaaDoorGShowNest14
import Derived.Deep.DeepHandedRow
import Derived.LaidSub
import Derived.Lib.LaidTab
import Derived.Lib.TrailingZeros
namespace Go.Proofs.YthcbgneoonekkaaDoor.ShowTab
open Go.RowKit

abbrev listed : List (String × DataW Unit) := [("math/bits.deBruijn32tab", Rows.laid_math_bits_deBruijn32tab), ("math/bits.deBruijn64tab", Rows.laid_math_bits_deBruijn64tab), ("internal/strconv.uint64pow10", Rows.laid_internal_strconv_uint64pow10), ("watchglass/show.words", Rows.laid_watchglass_show_words)]
theorem gTab : Tryd.prog.globalNamed "internal/strconv.uint64pow10" = some 1 := by kernel_rfl
theorem gTabType : (Tryd.prog.globals[1]?).map (·.type) = some 89 := by kernel_rfl
theorem gWordsType : (Tryd.prog.globals[0]?).map (·.type) = some 73 := by kernel_rfl
theorem cellsTab : Tryd.prog.cellsOf 89 = 20 := by kernel_rfl
theorem cellsOne : Tryd.prog.cellsOf 83 = 1 := by kernel_rfl
theorem cellsWords : Tryd.prog.cellsOf 73 = 23 := by kernel_rfl
theorem cellsStr1 : Tryd.prog.cellsOf 9 = 1 := by kernel_rfl
theorem lone {W : World} (h : laidMetH Tryd.prog listed W) : laidMetH Tryd.prog [("internal/strconv.uint64pow10", Rows.laid_internal_strconv_uint64pow10)] W :=
  h.filter fun x => x.1 == "internal/strconv.uint64pow10"
theorem lone2 {W : World} (h : laidMetH Tryd.prog listed W) : laidMetH Tryd.prog [("watchglass/show.words", Rows.laid_watchglass_show_words)] W :=
  h.filter fun x => x.1 == "watchglass/show.words"

set_option maxRecDepth 100000 in
theorem tab_of {W : World} (h : laidMetH Tryd.prog listed W) : Show.Tabs W :=
  ⟨Lib.tabIs_of_head (rest := []) gTab gTabType Tryd.underlying89 Tryd.underlying83 cellsOne cellsTab (lone h),
   Show.words_of_head (rest := []) gWordsType Tryd.underlying73 Tryd.underlying9 cellsStr1 cellsWords (lone2 h)⟩

/-- The cells, others. -/
def fill (vs : List Value) : Obj → Obj
  | .cells _ t frozen => .cells vs.toArray t frozen
  | o => o
/-- The settled world, the tables (blocks by name) as their initialisers lay them. -/
noncomputable def laidWorld (os : Os) : World :=
  { World.holding Tryd.prog os ⟨#[], #[], []⟩ with heap := ((((World.holding Tryd.prog os ⟨#[], #[], []⟩).heap.modify 1 (fill (Lib.pow10Tab.map fun x => Value.int .u64 x))).modify 2 (fill (Lib.deBruijn32tab.map fun x => Value.int .u8 (Int.ofNat x)))).modify 3 (fill (Lib.deBruijn64tab.map fun x => Value.int .u8 (Int.ofNat x)))).modify 0 (fill (Show.strTab.map fun z => Value.string (Lex.bytes z))) }
theorem laid_met (os : Os) : laidMet Tryd.prog listed ((laidWorld os).forCall (fun _ _ => 0) ⟨#[], #[.int .u16 0, .int .u16 0], []⟩).memory :=
  laidMet_of_run' 8 (by kernel_rfl) (by kernel_rfl)
end Go.Proofs.YthcbgneoonekkaaDoor.ShowTab
