/-
  DERIVED. GIVEN WITH THE SEED: THE CARDS: each row of YthcbgneoonekkaaDoorRows.lean that lists a variable, with what it lists TIED to the program's text (the seventh form; the later family's looks); each row that meets fmt, with fmt's text TOLD by the authors' own Lean function (tested against real Go, not proved from fmt's source: count such statements apart). THE CARD IS WHAT COUNTS. Prove the row's statement (the work); the ties are given (YthcbgneoonekkaaDoorTie.lean); close each card by the builder's one call (the guide's Derived/Test/ToyasCard.lean, 'card_holds'). Laid BY PROGRAM, IN A SANDBOX (cutbox-door.mjs). By AI agents, Wed Nov 11 2026. No macro, syntax, notation, axiom, sorry.
-/
import Derived.Test.YthcbgneoonekkaaDoorRows
import GoSem.ClaimSeven
namespace Go.Proofs.YthcbgneoonekkaaDoor
namespace Rows

/-- THE TIED CARD OF 'watchglasslaw7.ShowNest'. -/
def showNestCard : Claim7 := { stood := { row := showNestRow, standIns := [], harness := (true, "164e9bb793870f72b57aff953a448f34bd12d4001028d3f0beefbc95bb99b75a"), looks := false }, kinds := [], alts := [], laidByText := true, laidKinds := [.data, .data, .data, .data], laidTests := true, laidLooks := .later }
def ShowNestCardSaid : Prop := Claim7.holds Tryd.pinned (.plain (OpenSpec.ofChange showNestSpec)) showNestCard

/-- THE SECOND FORM's CARD OF 'watchglasslaw7.ShowNest'. -/
def showNestUptoCard : Claim7 := { stood := { row := showNestUptoRow, standIns := [], harness := (true, "164e9bb793870f72b57aff953a448f34bd12d4001028d3f0beefbc95bb99b75a"), looks := false }, kinds := [], alts := [], laidByText := true, laidKinds := [.data, .data, .data, .data], laidTests := true, laidLooks := .later }
def ShowNestUptoCardSaid : Prop := Claim7.holds Tryd.pinned (.plain (OpenSpec.upto showNestSpec)) showNestUptoCard
end Rows
end Go.Proofs.YthcbgneoonekkaaDoor
