/-
  DERIVED. GIVEN WITH THE SEED: THE CARDS: each row of YtlcijipkdopllaaDoorRows.lean that lists a variable, with what it lists TIED to the program's text (the seventh form; the later family's looks); each row that meets fmt, with fmt's text TOLD by the authors' own Lean function (tested against real Go, not proved from fmt's source: count such statements apart). THE CARD IS WHAT COUNTS. Prove the row's statement (the work); the ties are given (YtlcijipkdopllaaDoorTie.lean); close each card by the builder's one call (the guide's Derived/Test/ToyasCard.lean, 'card_holds'). Laid BY PROGRAM, IN A SANDBOX (cutbox-door.mjs). By AI agents, Wed Nov 11 2026. No macro, syntax, notation, axiom, sorry.
-/
import Derived.Test.YtlcijipkdopllaaDoorRows
import GoSem.ClaimSeven
namespace Go.Proofs.YtlcijipkdopllaaDoor
namespace Rows

/-- THE TIED CARD OF 'watchglasslaw3.IvalTells'. -/
def ivalTellsCard : Claim7 := { stood := { row := ivalTellsRow, standIns := [], harness := (true, "f0747030b31f0021a29d07725dcc35df7062373c8e98ad3d004381fc1fcdcc21"), looks := false }, kinds := [], alts := [], laidByText := true, laidKinds := [.data, .data, .data], laidTests := true, laidLooks := .later }
def IvalTellsCardSaid : Prop := Claim7.holds Tryd.pinned (.plain (OpenSpec.ofChange ivalTellsSpec)) ivalTellsCard

/-- THE TIED CARD OF 'watchglasslaw3.IvalClasses'. -/
def ivalClassesCard : Claim7 := { stood := { row := ivalClassesRow, standIns := [], harness := (true, "f0747030b31f0021a29d07725dcc35df7062373c8e98ad3d004381fc1fcdcc21"), looks := false }, kinds := [], alts := [], laidByText := true, laidKinds := [.data, .data, .data], laidTests := true, laidLooks := .later }
def IvalClassesCardSaid : Prop := Claim7.holds Tryd.pinned (.plain (OpenSpec.ofChange ivalClassesSpec)) ivalClassesCard

/-- THE TIED CARD OF 'watchglasslaw3.IvalLater'. -/
def ivalLaterCard : Claim7 := { stood := { row := ivalLaterRow, standIns := [], harness := (true, "f0747030b31f0021a29d07725dcc35df7062373c8e98ad3d004381fc1fcdcc21"), looks := false }, kinds := [], alts := [], laidByText := true, laidKinds := [.data, .data, .data], laidTests := true, laidLooks := .later }
def IvalLaterCardSaid : Prop := Claim7.holds Tryd.pinned (.plain (OpenSpec.ofChange ivalLaterSpec)) ivalLaterCard

/-- THE TIED CARD OF 'watchglasslaw3.IvalEnds'. -/
def ivalEndsCard : Claim7 := { stood := { row := ivalEndsRow, standIns := [], harness := (true, "f0747030b31f0021a29d07725dcc35df7062373c8e98ad3d004381fc1fcdcc21"), looks := false }, kinds := [], alts := [], laidByText := true, laidKinds := [.data, .data, .data], laidTests := true, laidLooks := .later }
def IvalEndsCardSaid : Prop := Claim7.holds Tryd.pinned (.plain (OpenSpec.ofChange ivalEndsSpec)) ivalEndsCard

/-- THE SECOND FORM's CARD OF 'watchglasslaw3.IvalTells'. -/
def ivalTellsUptoCard : Claim7 := { stood := { row := ivalTellsUptoRow, standIns := [], harness := (true, "f0747030b31f0021a29d07725dcc35df7062373c8e98ad3d004381fc1fcdcc21"), looks := false }, kinds := [], alts := [], laidByText := true, laidKinds := [.data, .data, .data], laidTests := true, laidLooks := .later }
def IvalTellsUptoCardSaid : Prop := Claim7.holds Tryd.pinned (.plain (OpenSpec.upto ivalTellsSpec)) ivalTellsUptoCard

/-- THE SECOND FORM's CARD OF 'watchglasslaw3.IvalClasses'. -/
def ivalClassesUptoCard : Claim7 := { stood := { row := ivalClassesUptoRow, standIns := [], harness := (true, "f0747030b31f0021a29d07725dcc35df7062373c8e98ad3d004381fc1fcdcc21"), looks := false }, kinds := [], alts := [], laidByText := true, laidKinds := [.data, .data, .data], laidTests := true, laidLooks := .later }
def IvalClassesUptoCardSaid : Prop := Claim7.holds Tryd.pinned (.plain (OpenSpec.upto ivalClassesSpec)) ivalClassesUptoCard

/-- THE SECOND FORM's CARD OF 'watchglasslaw3.IvalLater'. -/
def ivalLaterUptoCard : Claim7 := { stood := { row := ivalLaterUptoRow, standIns := [], harness := (true, "f0747030b31f0021a29d07725dcc35df7062373c8e98ad3d004381fc1fcdcc21"), looks := false }, kinds := [], alts := [], laidByText := true, laidKinds := [.data, .data, .data], laidTests := true, laidLooks := .later }
def IvalLaterUptoCardSaid : Prop := Claim7.holds Tryd.pinned (.plain (OpenSpec.upto ivalLaterSpec)) ivalLaterUptoCard

/-- THE SECOND FORM's CARD OF 'watchglasslaw3.IvalEnds'. -/
def ivalEndsUptoCard : Claim7 := { stood := { row := ivalEndsUptoRow, standIns := [], harness := (true, "f0747030b31f0021a29d07725dcc35df7062373c8e98ad3d004381fc1fcdcc21"), looks := false }, kinds := [], alts := [], laidByText := true, laidKinds := [.data, .data, .data], laidTests := true, laidLooks := .later }
def IvalEndsUptoCardSaid : Prop := Claim7.holds Tryd.pinned (.plain (OpenSpec.upto ivalEndsSpec)) ivalEndsUptoCard
end Rows
end Go.Proofs.YtlcijipkdopllaaDoor
