/-
  DERIVED. GIVEN WITH THE SEED: THE CARDS: each row of YtnoghlhggeffnaaGreatDoorRows.lean that lists a variable, with what it lists TIED to the program's text (the seventh form; the later family's looks); each row that meets fmt, with fmt's text TOLD by the authors' own Lean function (tested against real Go, not proved from fmt's source: count such statements apart). THE CARD IS WHAT COUNTS. Prove the row's statement (the work); the ties are given (YtnoghlhggeffnaaGreatDoorTie.lean); close each card by the builder's one call (the guide's Derived/Test/ToyasCard.lean, 'card_holds'). Laid BY PROGRAM, IN A SANDBOX (cutbox-door.mjs). By AI agents, Wed Nov 11 2026. No macro, syntax, notation, axiom, sorry.
-/
import Derived.Test.YtnoghlhggeffnaaGreatDoorRows
import GoSem.ClaimSeven
namespace Go.Proofs.YtnoghlhggeffnaaGreatDoor
namespace Rows

/-- THE TIED CARD OF 'watchglasslaw6.ParseSpoilt'. -/
def parseSpoiltCard : Claim7 := { stood := { row := parseSpoiltRow, standIns := [], harness := (true, "561d5cdc99dc0f530c71adecfbe35bd1cb883a86b894e1126bff8530f6160458"), looks := false }, kinds := [], alts := [], laidByText := true, laidKinds := [.data, .data, .data], laidTests := true, laidLooks := .later }
def ParseSpoiltCardSaid : Prop := Claim7.holds Tryz.pinned (.plain (OpenSpec.ofChange parseSpoiltSpec)) parseSpoiltCard

/-- THE SECOND FORM's CARD OF 'watchglasslaw6.ParseSpoilt'. -/
def parseSpoiltUptoCard : Claim7 := { stood := { row := parseSpoiltUptoRow, standIns := [], harness := (true, "561d5cdc99dc0f530c71adecfbe35bd1cb883a86b894e1126bff8530f6160458"), looks := false }, kinds := [], alts := [], laidByText := true, laidKinds := [.data, .data, .data], laidTests := true, laidLooks := .later }
def ParseSpoiltUptoCardSaid : Prop := Claim7.holds Tryz.pinned (.plain (OpenSpec.upto parseSpoiltSpec)) parseSpoiltUptoCard
end Rows
end Go.Proofs.YtnoghlhggeffnaaGreatDoor
