/-
  strconv.Itoa, for every int, by the shelf's contract; its table in its variable. By an AI agent.
  The walk of the reference's SpanText. By an AI agent.
-/
import Derived.Test.YthcbgneoonekkaaDoorGShowNest9
import Derived.Test.YthcbgneoonekkaaDoorChecked
import Derived.Lib.AppendIntMem
import Derived.Lib.ItoaLen
import Derived.Below
import Derived.WalkKit
import Derived.Test.YthcbgneoonekkaaDoorGShowNest3
import Derived.RegionTactic
import Derived.Deep.RegionWith
import Derived.BigRegion
namespace Go.Proofs.YthcbgneoonekkaaDoor.Itoa
open Go.RowKit Go.Sort

/-- The table of internal/strconv, in its variable. -/
def Tab10 (w : World) : Prop := Lib.TabIs Tryd.prog w "internal/strconv.uint64pow10" .u64 Lib.pow10Tab
theorem Tab10.later {w w' : World} (h : Tab10 w) (hb : Below w.heap.size w w') : Tab10 w' := Lib.tabBelow_of_tabIs h w' hb
/-- A number as it is written. -/
def dec (n : Int) : ByteArray := ⟨(Lib.itoa n).toArray⟩
theorem below_grow (w : World) (q : Nat) (os : Array Obj) : Below w.heap.size w (grow (w.drewN q) os) :=
  ⟨rfl, rfl, rfl, by simp [grow], fun k hk => by
    show (w.heap ++ os)[k]? = _
    rw [Array.getElem?_append_left hk]⟩
theorem itoa (n : Int) (w : World) (h : -9223372036854775808 ≤ n ∧ n ≤ 9223372036854775807) (hT : Tab10 w) :
    Calls Tryd.prog 44 #[.int .i64 n] w fun e w' => e = .returned (.string (dec n)) ∧ Below w.heap.size w w' :=
  (Tryd.strconv_Itoa n h.1 h.2 w hT).mono fun e w' ⟨h1, q, os, h2⟩ => ⟨h1, by rw [h2]; exact below_grow w q os⟩
theorem dec_size (n : Int) (h : -9223372036854775808 ≤ n ∧ n ≤ 9223372036854775807) : (dec n).size ≤ 21 := by
  have := Lib.itoa_length_le n h.1 h.2
  simpa [dec, ByteArray.size] using this
end Go.Proofs.YthcbgneoonekkaaDoor.Itoa

namespace Go.Proofs.YthcbgneoonekkaaDoor.Ival
open Go.RowKit Go.Proofs.YthcbgneoonekkaaDoor.Itoa

/-- A span as it is written. -/
def textS (lo hi : Int) : ByteArray :=
  if mayS lo hi = true then (if hi = -1 then { data := #[91] } ++ dec lo ++ { data := #[44, 42, 93] } else { data := #[91] } ++ dec lo ++ { data := #[44] } ++ dec hi ++ { data := #[93] }) else { data := #[] }

end Go.Proofs.YthcbgneoonekkaaDoor.Ival
