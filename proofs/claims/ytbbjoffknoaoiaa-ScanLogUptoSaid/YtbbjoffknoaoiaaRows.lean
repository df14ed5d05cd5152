/-
  No cell of these rows narrows 'for every input' (looked for: loops, veiled, ifaces, maps, wideKeys, modest, calm, conditions, laid).
  DERIVED. THE GIVEN ROWS OF THIS SEAT. 5 by the template 'for every input the law returns true; each argument reads behind the call as it read before'; 0 by the template 'total and deterministic' (their statements: YtbbjoffknoaoiaaTotals.lean).
  GIVEN WITH THE SEED: the statements are not yours to turn. If you find one false, say at which input.
  Laid BY PROGRAM, IN A SANDBOX (cutbox-rows.mjs): the forced cells as the released guide's own fill.sh prints them over the translation d40f98f3a958bd8a… (all of the seat's roots in one cut). By AI agents, Wed Nov 11 2026. No macro, syntax, notation, axiom, sorry.
-/
import Derived.Test.YtbbjoffknoaoiaaChecked
import GoSem.Claim
import GoSem.ClaimJoined
import GoSem.ClaimMapViews
import Derived.JoinedTies
import Derived.KernelRfl
namespace Go.Proofs.Ytbbjoffknoaoiaa
/- THE CELL 'sum', in the pinned program and in every row, IS THE sha256 OF THE DUMP (.gsa) THAT YtbbjoffknoaoiaaProg.lean LOADS. Nothing in Lean hashes anything: it is a label: what it is worth is what the hold of that sum in a sandbox is worth. -/
noncomputable def Try.pinned : Pinned := { name := "ytbbjoffknoaoiaa", sum := "d40f98f3a958bd8aa076d0a638bc6926d7f2255143ee65d58aa56777f821cd59", checked := Try.checked }
namespace Rows
def none {H : Type} : Left H := { results := [], args := [] }

/-- 'watchglasslaw12.ScanAny': WHATEVER THE INPUT: true; the input reads as it did. -/
def scanAnySpec : ChangeSpec := { name := "scanAny", fn := fun _ => fun
  | [d1, d2, d3, d4, d5] => { results := [.lit (.bool true)], args := [d1, d2, d3, d4, d5] }
  | _ => none }
def scanAnyRow : OpenClaim := { program := "ytbbjoffknoaoiaa", sum := "d40f98f3a958bd8aa076d0a638bc6926d7f2255143ee65d58aa56777f821cd59", func := "watchglass/watchglasslaw12.ScanAny", spec := "scanAny", unfollowed := true, recurses := true, apart := false }
def ScanAnySaid : Prop := scanAnyRow.holds Try.pinned (OpenSpec.ofChange scanAnySpec)

/-- ITS FALSE NEIGHBOUR: 'it returns false'. Refute it at one input. -/
def scanAnyWrong : ChangeSpec := { name := "scanAny", fn := fun _ => fun
  | [d1, d2, d3, d4, d5] => { results := [.lit (.bool false)], args := [d1, d2, d3, d4, d5] }
  | _ => none }
def ScanAnyWrongFalsely : Prop := scanAnyRow.holds Try.pinned (OpenSpec.ofChange scanAnyWrong)

/-- 'watchglasslaw12.ScanSpoilt': WHATEVER THE INPUT: true; the input reads as it did. -/
def scanSpoiltSpec : ChangeSpec := { name := "scanSpoilt", fn := fun _ => fun
  | [d1, d2, d3, d4, d5, d6, d7, d8, d9] => { results := [.lit (.bool true)], args := [d1, d2, d3, d4, d5, d6, d7, d8, d9] }
  | _ => none }
def scanSpoiltRow : OpenClaim := { program := "ytbbjoffknoaoiaa", sum := "d40f98f3a958bd8aa076d0a638bc6926d7f2255143ee65d58aa56777f821cd59", func := "watchglass/watchglasslaw12.ScanSpoilt", spec := "scanSpoilt", unfollowed := true, recurses := true, apart := false }
def ScanSpoiltSaid : Prop := scanSpoiltRow.holds Try.pinned (OpenSpec.ofChange scanSpoiltSpec)

/-- ITS FALSE NEIGHBOUR: 'it returns false'. Refute it at one input. -/
def scanSpoiltWrong : ChangeSpec := { name := "scanSpoilt", fn := fun _ => fun
  | [d1, d2, d3, d4, d5, d6, d7, d8, d9] => { results := [.lit (.bool false)], args := [d1, d2, d3, d4, d5, d6, d7, d8, d9] }
  | _ => none }
def ScanSpoiltWrongFalsely : Prop := scanSpoiltRow.holds Try.pinned (OpenSpec.ofChange scanSpoiltWrong)

/-- 'watchglasslaw12.ScanSealed': WHATEVER THE INPUT: true; the input reads as it did. -/
def scanSealedSpec : ChangeSpec := { name := "scanSealed", fn := fun _ => fun
  | [d1, d2, d3, d4] => { results := [.lit (.bool true)], args := [d1, d2, d3, d4] }
  | _ => none }
def scanSealedRow : OpenClaim := { program := "ytbbjoffknoaoiaa", sum := "d40f98f3a958bd8aa076d0a638bc6926d7f2255143ee65d58aa56777f821cd59", func := "watchglass/watchglasslaw12.ScanSealed", spec := "scanSealed", unfollowed := true, recurses := true, apart := false }
def ScanSealedSaid : Prop := scanSealedRow.holds Try.pinned (OpenSpec.ofChange scanSealedSpec)

/-- ITS FALSE NEIGHBOUR: 'it returns false'. Refute it at one input. -/
def scanSealedWrong : ChangeSpec := { name := "scanSealed", fn := fun _ => fun
  | [d1, d2, d3, d4] => { results := [.lit (.bool false)], args := [d1, d2, d3, d4] }
  | _ => none }
def ScanSealedWrongFalsely : Prop := scanSealedRow.holds Try.pinned (OpenSpec.ofChange scanSealedWrong)

/-- 'watchglasslaw12.ScanLog': WHATEVER THE INPUT: true; the input reads as it did. -/
def scanLogSpec : ChangeSpec := { name := "scanLog", fn := fun _ => fun
  | [d1, d2, d3, d4, d5, d6, d7] => { results := [.lit (.bool true)], args := [d1, d2, d3, d4, d5, d6, d7] }
  | _ => none }
def scanLogRow : OpenClaim := { program := "ytbbjoffknoaoiaa", sum := "d40f98f3a958bd8aa076d0a638bc6926d7f2255143ee65d58aa56777f821cd59", func := "watchglass/watchglasslaw12.ScanLog", spec := "scanLog", unfollowed := true, recurses := true, apart := false }
def ScanLogSaid : Prop := scanLogRow.holds Try.pinned (OpenSpec.ofChange scanLogSpec)

/-- ITS FALSE NEIGHBOUR: 'it returns false'. Refute it at one input. -/
def scanLogWrong : ChangeSpec := { name := "scanLog", fn := fun _ => fun
  | [d1, d2, d3, d4, d5, d6, d7] => { results := [.lit (.bool false)], args := [d1, d2, d3, d4, d5, d6, d7] }
  | _ => none }
def ScanLogWrongFalsely : Prop := scanLogRow.holds Try.pinned (OpenSpec.ofChange scanLogWrong)

/-- 'watchglasslaw12.ScanFault': WHATEVER THE INPUT: true; the input reads as it did. -/
def scanFaultSpec : ChangeSpec := { name := "scanFault", fn := fun _ => fun
  | [d1, d2, d3, d4] => { results := [.lit (.bool true)], args := [d1, d2, d3, d4] }
  | _ => none }
def scanFaultRow : OpenClaim := { program := "ytbbjoffknoaoiaa", sum := "d40f98f3a958bd8aa076d0a638bc6926d7f2255143ee65d58aa56777f821cd59", func := "watchglass/watchglasslaw12.ScanFault", spec := "scanFault", unfollowed := true, recurses := true, apart := false }
def ScanFaultSaid : Prop := scanFaultRow.holds Try.pinned (OpenSpec.ofChange scanFaultSpec)

/-- ITS FALSE NEIGHBOUR: 'it returns false'. Refute it at one input. -/
def scanFaultWrong : ChangeSpec := { name := "scanFault", fn := fun _ => fun
  | [d1, d2, d3, d4] => { results := [.lit (.bool false)], args := [d1, d2, d3, d4] }
  | _ => none }
def ScanFaultWrongFalsely : Prop := scanFaultRow.holds Try.pinned (OpenSpec.ofChange scanFaultWrong)

/- THE SECOND FORM. 'bulk': how many values and letters a reading holds, each counted each time it is reached (what is shared counts as often as it is met; a slice's spare places count too). A statement '..UptoSaid' is the law's where the arguments, and the package variables that the reading takes, are together of bulk at most 1048576: NARROWER than '..Said'. Prove '..Said' where nothing that the law and all that it calls make is longer than what came in: it says more and counts as full. Else prove '..UptoSaid'. A law counts once. -/
mutual
def uptoBulk {H : Type} : DataW H → Nat
  | .lit (.string bytes) => bytes.length + 1
  | .lit _ => 1
  | .nil => 1
  | .ptr d => uptoBulk d + 1
  | .slice elems spare => uptoBulkAll elems + uptoBulkAll spare + 1
  | .agg parts => uptoBulkAll parts + 1
  | .iface _ d => uptoBulk d + 1
  | .map entries => uptoBulkEntries entries + 1
  | .held _ => 1
def uptoBulkAll {H : Type} : List (DataW H) → Nat
  | [] => 0
  | d :: r => uptoBulk d + uptoBulkAll r
def uptoBulkEntries {H : Type} : List (Lit × DataW H) → Nat
  | [] => 0
  | x :: r => uptoBulkEntry x + uptoBulkEntries r
def uptoBulkEntry {H : Type} : Lit × DataW H → Nat
  | (.string bytes, d) => bytes.length + uptoBulk d + 1
  | (_, d) => uptoBulk d + 1
 end
def uptoSmall : (H : Type) → List (DataW H) → Bool := fun _ ds => decide (uptoBulkAll ds ≤ 1048576)
def OpenSpec.upto (s : _root_.Go.ChangeSpec) : _root_.Go.OpenSpec := { _root_.Go.OpenSpec.ofChange s with cond := some uptoSmall }

/-- 'watchglasslaw12.ScanAny', WHERE WHAT IT READS IS OF BULK AT MOST 1048576: true; the input reads as it did. -/
def scanAnyUptoRow : OpenClaim := { program := "ytbbjoffknoaoiaa", sum := "d40f98f3a958bd8aa076d0a638bc6926d7f2255143ee65d58aa56777f821cd59", func := "watchglass/watchglasslaw12.ScanAny", spec := "scanAny", unfollowed := true, recurses := true, apart := false, narrowed := true }
def ScanAnyUptoSaid : Prop := scanAnyUptoRow.holds Try.pinned (OpenSpec.upto scanAnySpec)

/-- 'watchglasslaw12.ScanSpoilt', WHERE WHAT IT READS IS OF BULK AT MOST 1048576: true; the input reads as it did. -/
def scanSpoiltUptoRow : OpenClaim := { program := "ytbbjoffknoaoiaa", sum := "d40f98f3a958bd8aa076d0a638bc6926d7f2255143ee65d58aa56777f821cd59", func := "watchglass/watchglasslaw12.ScanSpoilt", spec := "scanSpoilt", unfollowed := true, recurses := true, apart := false, narrowed := true }
def ScanSpoiltUptoSaid : Prop := scanSpoiltUptoRow.holds Try.pinned (OpenSpec.upto scanSpoiltSpec)

/-- 'watchglasslaw12.ScanSealed', WHERE WHAT IT READS IS OF BULK AT MOST 1048576: true; the input reads as it did. -/
def scanSealedUptoRow : OpenClaim := { program := "ytbbjoffknoaoiaa", sum := "d40f98f3a958bd8aa076d0a638bc6926d7f2255143ee65d58aa56777f821cd59", func := "watchglass/watchglasslaw12.ScanSealed", spec := "scanSealed", unfollowed := true, recurses := true, apart := false, narrowed := true }
def ScanSealedUptoSaid : Prop := scanSealedUptoRow.holds Try.pinned (OpenSpec.upto scanSealedSpec)

/-- 'watchglasslaw12.ScanLog', WHERE WHAT IT READS IS OF BULK AT MOST 1048576: true; the input reads as it did. -/
def scanLogUptoRow : OpenClaim := { program := "ytbbjoffknoaoiaa", sum := "d40f98f3a958bd8aa076d0a638bc6926d7f2255143ee65d58aa56777f821cd59", func := "watchglass/watchglasslaw12.ScanLog", spec := "scanLog", unfollowed := true, recurses := true, apart := false, narrowed := true }
def ScanLogUptoSaid : Prop := scanLogUptoRow.holds Try.pinned (OpenSpec.upto scanLogSpec)

/-- 'watchglasslaw12.ScanFault', WHERE WHAT IT READS IS OF BULK AT MOST 1048576: true; the input reads as it did. -/
def scanFaultUptoRow : OpenClaim := { program := "ytbbjoffknoaoiaa", sum := "d40f98f3a958bd8aa076d0a638bc6926d7f2255143ee65d58aa56777f821cd59", func := "watchglass/watchglasslaw12.ScanFault", spec := "scanFault", unfollowed := true, recurses := true, apart := false, narrowed := true }
def ScanFaultUptoSaid : Prop := scanFaultUptoRow.holds Try.pinned (OpenSpec.upto scanFaultSpec)

end Rows
end Go.Proofs.Ytbbjoffknoaoiaa
