/-
  No cell of these rows narrows 'for every input' (looked for: loops, veiled, ifaces, maps, wideKeys, modest, calm, conditions, laid).
  DERIVED. THE GIVEN ROWS OF THIS SEAT. 4 by the template 'for every input the law returns true; each argument reads behind the call as it read before'; 0 by the template 'total and deterministic' (their statements: YtimbbfneaaglbaaTotals.lean).
  GIVEN WITH THE SEED: the statements are not yours to turn. If you find one false, say at which input.
  Laid BY PROGRAM, IN A SANDBOX (cutbox-rows.mjs): the forced cells as the released guide's own fill.sh prints them over the translation c55b1662732ad061… (all of the seat's roots in one cut). By AI agents, Wed Nov 11 2026. No macro, syntax, notation, axiom, sorry.
-/
import Derived.Test.YtimbbfneaaglbaaChecked
import GoSem.Claim
import GoSem.ClaimJoined
import GoSem.ClaimMapViews
import Derived.JoinedTies
import Derived.KernelRfl
namespace Go.Proofs.Ytimbbfneaaglbaa
/- THE CELL 'sum', in the pinned program and in every row, IS THE sha256 OF THE DUMP (.gsa) THAT YtimbbfneaaglbaaProg.lean LOADS. Nothing in Lean hashes anything: it is a label: what it is worth is what the hold of that sum in a sandbox is worth. -/
noncomputable def Try.pinned : Pinned := { name := "ytimbbfneaaglbaa", sum := "c55b1662732ad06127d02017a1a85d3ac45ec399955bfdc6253e79e3863ef973", checked := Try.checked }
namespace Rows
def none {H : Type} : Left H := { results := [], args := [] }

/-- 'watchglasslaw13.HeadsApart': WHATEVER THE INPUT: true; the input reads as it did. -/
def headsApartSpec : ChangeSpec := { name := "headsApart", fn := fun _ => fun
  | [d1, d2, d3, d4, d5] => { results := [.lit (.bool true)], args := [d1, d2, d3, d4, d5] }
  | _ => none }
def headsApartRow : OpenClaim := { program := "ytimbbfneaaglbaa", sum := "c55b1662732ad06127d02017a1a85d3ac45ec399955bfdc6253e79e3863ef973", func := "watchglass/watchglasslaw13.HeadsApart", spec := "headsApart", inPlace := ["slices.overlaps[watchglass/heads.head]"], unfollowed := true, recurses := true, apart := false }
def HeadsApartSaid : Prop := headsApartRow.holds Try.pinned (OpenSpec.ofChange headsApartSpec)

/-- ITS FALSE NEIGHBOUR: 'it returns false'. Refute it at one input. -/
def headsApartWrong : ChangeSpec := { name := "headsApart", fn := fun _ => fun
  | [d1, d2, d3, d4, d5] => { results := [.lit (.bool false)], args := [d1, d2, d3, d4, d5] }
  | _ => none }
def HeadsApartWrongFalsely : Prop := headsApartRow.holds Try.pinned (OpenSpec.ofChange headsApartWrong)

/-- 'watchglasslaw13.HeadsOrder': WHATEVER THE INPUT: true; the input reads as it did. -/
def headsOrderSpec : ChangeSpec := { name := "headsOrder", fn := fun _ => fun
  | [d1, d2, d3, d4] => { results := [.lit (.bool true)], args := [d1, d2, d3, d4] }
  | _ => none }
def headsOrderRow : OpenClaim := { program := "ytimbbfneaaglbaa", sum := "c55b1662732ad06127d02017a1a85d3ac45ec399955bfdc6253e79e3863ef973", func := "watchglass/watchglasslaw13.HeadsOrder", spec := "headsOrder", inPlace := ["slices.overlaps[watchglass/heads.head]"], unfollowed := true, recurses := true, apart := false }
def HeadsOrderSaid : Prop := headsOrderRow.holds Try.pinned (OpenSpec.ofChange headsOrderSpec)

/-- ITS FALSE NEIGHBOUR: 'it returns false'. Refute it at one input. -/
def headsOrderWrong : ChangeSpec := { name := "headsOrder", fn := fun _ => fun
  | [d1, d2, d3, d4] => { results := [.lit (.bool false)], args := [d1, d2, d3, d4] }
  | _ => none }
def HeadsOrderWrongFalsely : Prop := headsOrderRow.holds Try.pinned (OpenSpec.ofChange headsOrderWrong)

/-- 'watchglasslaw13.HeadsFull': WHATEVER THE INPUT: true; the input reads as it did. -/
def headsFullSpec : ChangeSpec := { name := "headsFull", fn := fun _ => fun
  | [d1, d2, d3] => { results := [.lit (.bool true)], args := [d1, d2, d3] }
  | _ => none }
def headsFullRow : OpenClaim := { program := "ytimbbfneaaglbaa", sum := "c55b1662732ad06127d02017a1a85d3ac45ec399955bfdc6253e79e3863ef973", func := "watchglass/watchglasslaw13.HeadsFull", spec := "headsFull", inPlace := ["slices.overlaps[watchglass/heads.head]"], unfollowed := true, recurses := true, apart := false }
def HeadsFullSaid : Prop := headsFullRow.holds Try.pinned (OpenSpec.ofChange headsFullSpec)

/-- ITS FALSE NEIGHBOUR: 'it returns false'. Refute it at one input. -/
def headsFullWrong : ChangeSpec := { name := "headsFull", fn := fun _ => fun
  | [d1, d2, d3] => { results := [.lit (.bool false)], args := [d1, d2, d3] }
  | _ => none }
def HeadsFullWrongFalsely : Prop := headsFullRow.holds Try.pinned (OpenSpec.ofChange headsFullWrong)

/-- 'watchglasslaw13.HeadsNil': WHATEVER THE INPUT: true; the input reads as it did. -/
def headsNilSpec : ChangeSpec := { name := "headsNil", fn := fun _ => fun
  | [d1, d2] => { results := [.lit (.bool true)], args := [d1, d2] }
  | _ => none }
def headsNilRow : OpenClaim := { program := "ytimbbfneaaglbaa", sum := "c55b1662732ad06127d02017a1a85d3ac45ec399955bfdc6253e79e3863ef973", func := "watchglass/watchglasslaw13.HeadsNil", spec := "headsNil", inPlace := ["slices.overlaps[watchglass/heads.head]"], unfollowed := true, recurses := true, apart := false }
def HeadsNilSaid : Prop := headsNilRow.holds Try.pinned (OpenSpec.ofChange headsNilSpec)

/-- ITS FALSE NEIGHBOUR: 'it returns false'. Refute it at one input. -/
def headsNilWrong : ChangeSpec := { name := "headsNil", fn := fun _ => fun
  | [d1, d2] => { results := [.lit (.bool false)], args := [d1, d2] }
  | _ => none }
def HeadsNilWrongFalsely : Prop := headsNilRow.holds Try.pinned (OpenSpec.ofChange headsNilWrong)

/- THE SECOND FORM. 'bulk': how many values and letters a reading holds, each counted each time it is reached (what is shared counts as often as it is met; a slice's spare places count too). A statement '..UptoSaid' is the law's where the arguments, and the package variables that the reading takes, are together of bulk at most 1048576: NARROWER than '..Said'. Prove '..Said' where nothing that the law and all that it calls make is longer than what came in: it says more and counts as full. Else prove '..UptoSaid'. A law counts once. -/
mutual
def uptoBulk {H : Type} : DataW H → Nat
  | .lit (.string bytes) => bytes.length + 1
  | .lit _ => 1
  | .nil => 1
  | .ptr d => uptoBulk d + 1
  | .slice elems spare => uptoBulkAll elems + uptoBulkAll spare + 1
  | .agg parts => uptoBulkAll parts + 1
  | .iface _ d => uptoBulk d + 1
  | .map entries => uptoBulkEntries entries + 1
  | .held _ => 1
def uptoBulkAll {H : Type} : List (DataW H) → Nat
  | [] => 0
  | d :: r => uptoBulk d + uptoBulkAll r
def uptoBulkEntries {H : Type} : List (Lit × DataW H) → Nat
  | [] => 0
  | x :: r => uptoBulkEntry x + uptoBulkEntries r
def uptoBulkEntry {H : Type} : Lit × DataW H → Nat
  | (.string bytes, d) => bytes.length + uptoBulk d + 1
  | (_, d) => uptoBulk d + 1
 end
def uptoSmall : (H : Type) → List (DataW H) → Bool := fun _ ds => decide (uptoBulkAll ds ≤ 1048576)
def OpenSpec.upto (s : _root_.Go.ChangeSpec) : _root_.Go.OpenSpec := { _root_.Go.OpenSpec.ofChange s with cond := some uptoSmall }

/-- 'watchglasslaw13.HeadsApart', WHERE WHAT IT READS IS OF BULK AT MOST 1048576: true; the input reads as it did. -/
def headsApartUptoRow : OpenClaim := { program := "ytimbbfneaaglbaa", sum := "c55b1662732ad06127d02017a1a85d3ac45ec399955bfdc6253e79e3863ef973", func := "watchglass/watchglasslaw13.HeadsApart", spec := "headsApart", inPlace := ["slices.overlaps[watchglass/heads.head]"], unfollowed := true, recurses := true, apart := false, narrowed := true }
def HeadsApartUptoSaid : Prop := headsApartUptoRow.holds Try.pinned (OpenSpec.upto headsApartSpec)

/-- 'watchglasslaw13.HeadsOrder', WHERE WHAT IT READS IS OF BULK AT MOST 1048576: true; the input reads as it did. -/
def headsOrderUptoRow : OpenClaim := { program := "ytimbbfneaaglbaa", sum := "c55b1662732ad06127d02017a1a85d3ac45ec399955bfdc6253e79e3863ef973", func := "watchglass/watchglasslaw13.HeadsOrder", spec := "headsOrder", inPlace := ["slices.overlaps[watchglass/heads.head]"], unfollowed := true, recurses := true, apart := false, narrowed := true }
def HeadsOrderUptoSaid : Prop := headsOrderUptoRow.holds Try.pinned (OpenSpec.upto headsOrderSpec)

/-- 'watchglasslaw13.HeadsFull', WHERE WHAT IT READS IS OF BULK AT MOST 1048576: true; the input reads as it did. -/
def headsFullUptoRow : OpenClaim := { program := "ytimbbfneaaglbaa", sum := "c55b1662732ad06127d02017a1a85d3ac45ec399955bfdc6253e79e3863ef973", func := "watchglass/watchglasslaw13.HeadsFull", spec := "headsFull", inPlace := ["slices.overlaps[watchglass/heads.head]"], unfollowed := true, recurses := true, apart := false, narrowed := true }
def HeadsFullUptoSaid : Prop := headsFullUptoRow.holds Try.pinned (OpenSpec.upto headsFullSpec)

/-- 'watchglasslaw13.HeadsNil', WHERE WHAT IT READS IS OF BULK AT MOST 1048576: true; the input reads as it did. -/
def headsNilUptoRow : OpenClaim := { program := "ytimbbfneaaglbaa", sum := "c55b1662732ad06127d02017a1a85d3ac45ec399955bfdc6253e79e3863ef973", func := "watchglass/watchglasslaw13.HeadsNil", spec := "headsNil", inPlace := ["slices.overlaps[watchglass/heads.head]"], unfollowed := true, recurses := true, apart := false, narrowed := true }
def HeadsNilUptoSaid : Prop := headsNilUptoRow.holds Try.pinned (OpenSpec.upto headsNilSpec)

end Rows
end Go.Proofs.Ytimbbfneaaglbaa
