/-
  DERIVED. GIVEN WITH THE SEED: THE CARDS: each row of YtnoghlhggeffnaaDoorRows.lean that lists a variable, with what it lists TIED to the program's text (the seventh form; the later family's looks); each row that meets fmt, with fmt's text TOLD by the authors' own Lean function (tested against real Go, not proved from fmt's source: count such statements apart). THE CARD IS WHAT COUNTS. Prove the row's statement (the work); the ties are given (YtnoghlhggeffnaaDoorTie.lean); close each card by the builder's one call (the guide's Derived/Test/ToyasCard.lean, 'card_holds'). Laid BY PROGRAM, IN A SANDBOX (cutbox-door.mjs). By AI agents, Wed Nov 11 2026. No macro, syntax, notation, axiom, sorry.
-/
import Derived.Test.YtnoghlhggeffnaaDoorRows
import GoSem.ClaimSeven
namespace Go.Proofs.YtnoghlhggeffnaaDoor
namespace Rows

/-- THE TIED CARD OF 'watchglasslaw6.ParseMade'. -/
def parseMadeCard : Claim7 := { stood := { row := parseMadeRow, standIns := [], harness := (true, "fb717f47f7575b56d82f4fc5fca6966144935a23e1bda5d90465bb3794ab5ad0"), looks := false }, kinds := [], alts := [], laidByText := true, laidKinds := [.data, .data, .data], laidTests := true, laidLooks := .later }
def ParseMadeCardSaid : Prop := Claim7.holds Tryd.pinned (.plain (OpenSpec.ofChange parseMadeSpec)) parseMadeCard

/-- THE TIED CARD OF 'watchglasslaw6.ParseRefuses'. -/
def parseRefusesCard : Claim7 := { stood := { row := parseRefusesRow, standIns := [], harness := (true, "fb717f47f7575b56d82f4fc5fca6966144935a23e1bda5d90465bb3794ab5ad0"), looks := false }, kinds := [], alts := [], laidByText := true, laidKinds := [.data, .data, .data], laidTests := true, laidLooks := .later }
def ParseRefusesCardSaid : Prop := Claim7.holds Tryd.pinned (.plain (OpenSpec.ofChange parseRefusesSpec)) parseRefusesCard

/-- THE SECOND FORM's CARD OF 'watchglasslaw6.ParseMade'. -/
def parseMadeUptoCard : Claim7 := { stood := { row := parseMadeUptoRow, standIns := [], harness := (true, "fb717f47f7575b56d82f4fc5fca6966144935a23e1bda5d90465bb3794ab5ad0"), looks := false }, kinds := [], alts := [], laidByText := true, laidKinds := [.data, .data, .data], laidTests := true, laidLooks := .later }
def ParseMadeUptoCardSaid : Prop := Claim7.holds Tryd.pinned (.plain (OpenSpec.upto parseMadeSpec)) parseMadeUptoCard

/-- THE SECOND FORM's CARD OF 'watchglasslaw6.ParseRefuses'. -/
def parseRefusesUptoCard : Claim7 := { stood := { row := parseRefusesUptoRow, standIns := [], harness := (true, "fb717f47f7575b56d82f4fc5fca6966144935a23e1bda5d90465bb3794ab5ad0"), looks := false }, kinds := [], alts := [], laidByText := true, laidKinds := [.data, .data, .data], laidTests := true, laidLooks := .later }
def ParseRefusesUptoCardSaid : Prop := Claim7.holds Tryd.pinned (.plain (OpenSpec.upto parseRefusesSpec)) parseRefusesUptoCard
end Rows
end Go.Proofs.YtnoghlhggeffnaaDoor
