/-
  NARROWER THAN 'FOR EVERY INPUT', by the rows' own cells (each row's printed sentence says how): SatDual: laid · SatUnwinds: laid.
  DERIVED. THE GIVEN ROWS OF THIS SEAT. 2 by the template 'for every input the law returns true; each argument reads behind the call as it read before'; 0 by the template 'total and deterministic' (their statements: YtdbgaccnejffpaaGreatDoorTotals.lean).
  GIVEN WITH THE SEED: the statements are not yours to turn. If you find one false, say at which input.
  Laid BY PROGRAM, IN A SANDBOX (cutbox-rows.mjs): the forced cells as the released guide's own fill.sh prints them over the translation 971fa0af2513e517… (all of the seat's roots in one cut). By AI agents, Wed Nov 11 2026. No macro, syntax, notation, axiom, sorry.
-/
import Derived.Test.YtdbgaccnejffpaaGreatDoorChecked
import GoSem.Claim
import GoSem.ClaimJoined
import GoSem.ClaimMapViews
import Derived.JoinedTies
import Derived.KernelRfl
namespace Go.Proofs.YtdbgaccnejffpaaGreatDoor
/- THE CELL 'sum', in the pinned program and in every row, IS THE sha256 OF THE DUMP (.gsa) THAT YtdbgaccnejffpaaGreatDoorProg.lean LOADS. Nothing in Lean hashes anything: it is a label: what it is worth is what the hold of that sum in a sandbox is worth. -/
noncomputable def Tryz.pinned : Pinned := { name := "ytdbgaccnejffpaagreatdoor", sum := "971fa0af2513e517cc455961440ae591bf84140d8c7a37a7272753602620c3b5", checked := Tryz.checked }
namespace Rows
def none {H : Type} : Left H := { results := [], args := [] }

/- WHAT THE LISTED PACKAGE-LEVEL VARIABLES READ AS WHEN THE CALL BEGINS. Each datum BY PROGRAM (the guide's laid-datum.mjs) off the statement by which the dump's own 'gosem.cut.vars' lays the variable. In a bare row this is a premise. The card (YtdbgaccnejffpaaGreatDoorCards.lean) ties it to the program's text. -/
def laid_watchglass_watchglasslaw15_none {H : Type} : DataW H := .agg [.lit (.int .i64 0), .lit (.int .i64 0)]

/-- 'watchglasslaw15.SatDual': WHATEVER THE INPUT: true; the input reads as it did. -/
def satDualSpec : ChangeSpec := { name := "satDual", fn := fun _ => fun
  | [d1, d2, d3, d4, d5] => { results := [.lit (.bool true)], args := [d1, d2, d3, d4, d5] }
  | _ => none }
def satDualRow : OpenClaim := { program := "ytdbgaccnejffpaagreatdoor", sum := "971fa0af2513e517cc455961440ae591bf84140d8c7a37a7272753602620c3b5", func := "watchglass/watchglasslaw15.SatDual", spec := "satDual", unfollowed := true, recurses := true, named := ["watchglass/watchglasslaw15.none"], apart := false, laid := [("watchglass/watchglasslaw15.none", laid_watchglass_watchglasslaw15_none)] }
def SatDualSaid : Prop := satDualRow.holds Tryz.pinned (OpenSpec.ofChange satDualSpec)

/-- ITS FALSE NEIGHBOUR: 'it returns false'. Refute it at one input. -/
def satDualWrong : ChangeSpec := { name := "satDual", fn := fun _ => fun
  | [d1, d2, d3, d4, d5] => { results := [.lit (.bool false)], args := [d1, d2, d3, d4, d5] }
  | _ => none }
def SatDualWrongFalsely : Prop := satDualRow.holds Tryz.pinned (OpenSpec.ofChange satDualWrong)

/-- 'watchglasslaw15.SatUnwinds': WHATEVER THE INPUT: true; the input reads as it did. -/
def satUnwindsSpec : ChangeSpec := { name := "satUnwinds", fn := fun _ => fun
  | [d1, d2, d3, d4, d5] => { results := [.lit (.bool true)], args := [d1, d2, d3, d4, d5] }
  | _ => none }
def satUnwindsRow : OpenClaim := { program := "ytdbgaccnejffpaagreatdoor", sum := "971fa0af2513e517cc455961440ae591bf84140d8c7a37a7272753602620c3b5", func := "watchglass/watchglasslaw15.SatUnwinds", spec := "satUnwinds", unfollowed := true, recurses := true, named := ["watchglass/watchglasslaw15.none"], apart := false, laid := [("watchglass/watchglasslaw15.none", laid_watchglass_watchglasslaw15_none)] }
def SatUnwindsSaid : Prop := satUnwindsRow.holds Tryz.pinned (OpenSpec.ofChange satUnwindsSpec)

/-- ITS FALSE NEIGHBOUR: 'it returns false'. Refute it at one input. -/
def satUnwindsWrong : ChangeSpec := { name := "satUnwinds", fn := fun _ => fun
  | [d1, d2, d3, d4, d5] => { results := [.lit (.bool false)], args := [d1, d2, d3, d4, d5] }
  | _ => none }
def SatUnwindsWrongFalsely : Prop := satUnwindsRow.holds Tryz.pinned (OpenSpec.ofChange satUnwindsWrong)

/- THE SECOND FORM. 'bulk': how many values and letters a reading holds, each counted each time it is reached (what is shared counts as often as it is met; a slice's spare places count too). A statement '..UptoSaid' is the law's where the arguments, and the package variables that the reading takes, are together of bulk at most 1048576: NARROWER than '..Said'. Prove '..Said' where nothing that the law and all that it calls make is longer than what came in: it says more and counts as full. Else prove '..UptoSaid'. A law counts once. -/
mutual
def uptoBulk {H : Type} : DataW H → Nat
  | .lit (.string bytes) => bytes.length + 1
  | .lit _ => 1
  | .nil => 1
  | .ptr d => uptoBulk d + 1
  | .slice elems spare => uptoBulkAll elems + uptoBulkAll spare + 1
  | .agg parts => uptoBulkAll parts + 1
  | .iface _ d => uptoBulk d + 1
  | .map entries => uptoBulkEntries entries + 1
  | .held _ => 1
def uptoBulkAll {H : Type} : List (DataW H) → Nat
  | [] => 0
  | d :: r => uptoBulk d + uptoBulkAll r
def uptoBulkEntries {H : Type} : List (Lit × DataW H) → Nat
  | [] => 0
  | x :: r => uptoBulkEntry x + uptoBulkEntries r
def uptoBulkEntry {H : Type} : Lit × DataW H → Nat
  | (.string bytes, d) => bytes.length + uptoBulk d + 1
  | (_, d) => uptoBulk d + 1
 end
def uptoSmall : (H : Type) → List (DataW H) → Bool := fun _ ds => decide (uptoBulkAll ds ≤ 1048576)
def OpenSpec.upto (s : _root_.Go.ChangeSpec) : _root_.Go.OpenSpec := { _root_.Go.OpenSpec.ofChange s with cond := some uptoSmall }

/-- 'watchglasslaw15.SatDual', WHERE WHAT IT READS IS OF BULK AT MOST 1048576: true; the input reads as it did. -/
def satDualUptoRow : OpenClaim := { program := "ytdbgaccnejffpaagreatdoor", sum := "971fa0af2513e517cc455961440ae591bf84140d8c7a37a7272753602620c3b5", func := "watchglass/watchglasslaw15.SatDual", spec := "satDual", unfollowed := true, recurses := true, named := ["watchglass/watchglasslaw15.none"], apart := false, laid := [("watchglass/watchglasslaw15.none", laid_watchglass_watchglasslaw15_none)], narrowed := true }
def SatDualUptoSaid : Prop := satDualUptoRow.holds Tryz.pinned (OpenSpec.upto satDualSpec)

/-- 'watchglasslaw15.SatUnwinds', WHERE WHAT IT READS IS OF BULK AT MOST 1048576: true; the input reads as it did. -/
def satUnwindsUptoRow : OpenClaim := { program := "ytdbgaccnejffpaagreatdoor", sum := "971fa0af2513e517cc455961440ae591bf84140d8c7a37a7272753602620c3b5", func := "watchglass/watchglasslaw15.SatUnwinds", spec := "satUnwinds", unfollowed := true, recurses := true, named := ["watchglass/watchglasslaw15.none"], apart := false, laid := [("watchglass/watchglasslaw15.none", laid_watchglass_watchglasslaw15_none)], narrowed := true }
def SatUnwindsUptoSaid : Prop := satUnwindsUptoRow.holds Tryz.pinned (OpenSpec.upto satUnwindsSpec)

end Rows
end Go.Proofs.YtdbgaccnejffpaaGreatDoor
