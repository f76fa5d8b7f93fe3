/-
  DERIVED. GIVEN WITH THE SEED: THE CARDS: each row of YtlhanhijfdnjfaaGreatDoorRows.lean that lists a variable, with what it lists TIED to the program's text (the seventh form; the later family's looks); each row that meets fmt, with fmt's text TOLD by the authors' own Lean function (tested against real Go, not proved from fmt's source: count such statements apart). THE CARD IS WHAT COUNTS. Prove the row's statement (the work); the ties are given (YtlhanhijfdnjfaaGreatDoorTie.lean); close each card by the builder's one call (the guide's Derived/Test/ToyasCard.lean, 'card_holds'). Laid BY PROGRAM, IN A SANDBOX (cutbox-door.mjs). By AI agents, Wed Nov 11 2026. No macro, syntax, notation, axiom, sorry.
-/
import Derived.Test.YtlhanhijfdnjfaaGreatDoorRows
import GoSem.ClaimSeven
namespace Go.Proofs.YtlhanhijfdnjfaaGreatDoor
namespace Rows

/-- THE TIED CARD OF 'shoeboxlaw05.FigureResponses'. -/
def figureResponsesCard : Claim7 := { stood := { row := figureResponsesRow, standIns := [], harness := (true, "5f0afb2feb9d336e46d5eeaa1b3a06700130bd65dcbb704fa96099d471f0297f"), looks := false }, kinds := [], alts := [], laidByText := true, laidKinds := [.data, .data, .data, .data, .data, .data], laidTests := true, laidLooks := .later }
def FigureResponsesCardSaid : Prop := Claim7.holds Tryz.pinned (.plain (OpenSpec.ofChange figureResponsesSpec)) figureResponsesCard

/-- THE TIED CARD OF 'shoeboxlaw05.FigureEnergies'. -/
def figureEnergiesCard : Claim7 := { stood := { row := figureEnergiesRow, standIns := [], harness := (true, "5f0afb2feb9d336e46d5eeaa1b3a06700130bd65dcbb704fa96099d471f0297f"), looks := false }, kinds := [], alts := [], laidByText := true, laidKinds := [.data, .data, .data, .data, .data, .data], laidTests := true, laidLooks := .later }
def FigureEnergiesCardSaid : Prop := Claim7.holds Tryz.pinned (.plain (OpenSpec.ofChange figureEnergiesSpec)) figureEnergiesCard

/-- THE TIED CARD OF 'shoeboxlaw05.FigureSums'. -/
def figureSumsCard : Claim7 := { stood := { row := figureSumsRow, standIns := [], harness := (true, "5f0afb2feb9d336e46d5eeaa1b3a06700130bd65dcbb704fa96099d471f0297f"), looks := false }, kinds := [], alts := [], laidByText := true, laidKinds := [.data, .data, .data, .data, .data, .data], laidTests := true, laidLooks := .later }
def FigureSumsCardSaid : Prop := Claim7.holds Tryz.pinned (.plain (OpenSpec.ofChange figureSumsSpec)) figureSumsCard

/-- THE TIED CARD OF 'shoeboxlaw05.FigureDrops'. -/
def figureDropsCard : Claim7 := { stood := { row := figureDropsRow, standIns := [], harness := (true, "5f0afb2feb9d336e46d5eeaa1b3a06700130bd65dcbb704fa96099d471f0297f"), looks := false }, kinds := [], alts := [], laidByText := true, laidKinds := [.data, .data, .data, .data, .data, .data], laidTests := true, laidLooks := .later }
def FigureDropsCardSaid : Prop := Claim7.holds Tryz.pinned (.plain (OpenSpec.ofChange figureDropsSpec)) figureDropsCard

/-- THE TIED CARD OF 'shoeboxlaw05.FigureDecays'. -/
def figureDecaysCard : Claim7 := { stood := { row := figureDecaysRow, standIns := [], harness := (true, "5f0afb2feb9d336e46d5eeaa1b3a06700130bd65dcbb704fa96099d471f0297f"), looks := false }, kinds := [], alts := [], laidByText := true, laidKinds := [.data, .data, .data, .data, .data, .data], laidTests := true, laidLooks := .later }
def FigureDecaysCardSaid : Prop := Claim7.holds Tryz.pinned (.plain (OpenSpec.ofChange figureDecaysSpec)) figureDecaysCard

/-- THE TIED CARD OF 'shoeboxlaw05.FigureDefinitions'. -/
def figureDefinitionsCard : Claim7 := { stood := { row := figureDefinitionsRow, standIns := [], harness := (true, "5f0afb2feb9d336e46d5eeaa1b3a06700130bd65dcbb704fa96099d471f0297f"), looks := false }, kinds := [], alts := [], laidByText := true, laidKinds := [.data, .data, .data, .data, .data, .data], laidTests := true, laidLooks := .later }
def FigureDefinitionsCardSaid : Prop := Claim7.holds Tryz.pinned (.plain (OpenSpec.ofChange figureDefinitionsSpec)) figureDefinitionsCard

/-- THE TIED CARD OF 'shoeboxlaw05.FigureLateral'. -/
def figureLateralCard : Claim7 := { stood := { row := figureLateralRow, standIns := [], harness := (true, "5f0afb2feb9d336e46d5eeaa1b3a06700130bd65dcbb704fa96099d471f0297f"), looks := false }, kinds := [], alts := [], laidByText := true, laidKinds := [.data, .data, .data, .data, .data, .data], laidTests := true, laidLooks := .later }
def FigureLateralCardSaid : Prop := Claim7.holds Tryz.pinned (.plain (OpenSpec.ofChange figureLateralSpec)) figureLateralCard

/-- THE TIED CARD OF 'shoeboxlaw05.FigureCentres'. -/
def figureCentresCard : Claim7 := { stood := { row := figureCentresRow, standIns := [], harness := (true, "5f0afb2feb9d336e46d5eeaa1b3a06700130bd65dcbb704fa96099d471f0297f"), looks := false }, kinds := [], alts := [], laidByText := true, laidKinds := [.data, .data, .data, .data, .data, .data], laidTests := true, laidLooks := .later }
def FigureCentresCardSaid : Prop := Claim7.holds Tryz.pinned (.plain (OpenSpec.ofChange figureCentresSpec)) figureCentresCard

/-- THE SECOND FORM's CARD OF 'shoeboxlaw05.FigureResponses'. -/
def figureResponsesUptoCard : Claim7 := { stood := { row := figureResponsesUptoRow, standIns := [], harness := (true, "5f0afb2feb9d336e46d5eeaa1b3a06700130bd65dcbb704fa96099d471f0297f"), looks := false }, kinds := [], alts := [], laidByText := true, laidKinds := [.data, .data, .data, .data, .data, .data], laidTests := true, laidLooks := .later }
def FigureResponsesUptoCardSaid : Prop := Claim7.holds Tryz.pinned (.plain (OpenSpec.upto figureResponsesSpec)) figureResponsesUptoCard

/-- THE SECOND FORM's CARD OF 'shoeboxlaw05.FigureEnergies'. -/
def figureEnergiesUptoCard : Claim7 := { stood := { row := figureEnergiesUptoRow, standIns := [], harness := (true, "5f0afb2feb9d336e46d5eeaa1b3a06700130bd65dcbb704fa96099d471f0297f"), looks := false }, kinds := [], alts := [], laidByText := true, laidKinds := [.data, .data, .data, .data, .data, .data], laidTests := true, laidLooks := .later }
def FigureEnergiesUptoCardSaid : Prop := Claim7.holds Tryz.pinned (.plain (OpenSpec.upto figureEnergiesSpec)) figureEnergiesUptoCard

/-- THE SECOND FORM's CARD OF 'shoeboxlaw05.FigureSums'. -/
def figureSumsUptoCard : Claim7 := { stood := { row := figureSumsUptoRow, standIns := [], harness := (true, "5f0afb2feb9d336e46d5eeaa1b3a06700130bd65dcbb704fa96099d471f0297f"), looks := false }, kinds := [], alts := [], laidByText := true, laidKinds := [.data, .data, .data, .data, .data, .data], laidTests := true, laidLooks := .later }
def FigureSumsUptoCardSaid : Prop := Claim7.holds Tryz.pinned (.plain (OpenSpec.upto figureSumsSpec)) figureSumsUptoCard

/-- THE SECOND FORM's CARD OF 'shoeboxlaw05.FigureDrops'. -/
def figureDropsUptoCard : Claim7 := { stood := { row := figureDropsUptoRow, standIns := [], harness := (true, "5f0afb2feb9d336e46d5eeaa1b3a06700130bd65dcbb704fa96099d471f0297f"), looks := false }, kinds := [], alts := [], laidByText := true, laidKinds := [.data, .data, .data, .data, .data, .data], laidTests := true, laidLooks := .later }
def FigureDropsUptoCardSaid : Prop := Claim7.holds Tryz.pinned (.plain (OpenSpec.upto figureDropsSpec)) figureDropsUptoCard

/-- THE SECOND FORM's CARD OF 'shoeboxlaw05.FigureDecays'. -/
def figureDecaysUptoCard : Claim7 := { stood := { row := figureDecaysUptoRow, standIns := [], harness := (true, "5f0afb2feb9d336e46d5eeaa1b3a06700130bd65dcbb704fa96099d471f0297f"), looks := false }, kinds := [], alts := [], laidByText := true, laidKinds := [.data, .data, .data, .data, .data, .data], laidTests := true, laidLooks := .later }
def FigureDecaysUptoCardSaid : Prop := Claim7.holds Tryz.pinned (.plain (OpenSpec.upto figureDecaysSpec)) figureDecaysUptoCard

/-- THE SECOND FORM's CARD OF 'shoeboxlaw05.FigureDefinitions'. -/
def figureDefinitionsUptoCard : Claim7 := { stood := { row := figureDefinitionsUptoRow, standIns := [], harness := (true, "5f0afb2feb9d336e46d5eeaa1b3a06700130bd65dcbb704fa96099d471f0297f"), looks := false }, kinds := [], alts := [], laidByText := true, laidKinds := [.data, .data, .data, .data, .data, .data], laidTests := true, laidLooks := .later }
def FigureDefinitionsUptoCardSaid : Prop := Claim7.holds Tryz.pinned (.plain (OpenSpec.upto figureDefinitionsSpec)) figureDefinitionsUptoCard

/-- THE SECOND FORM's CARD OF 'shoeboxlaw05.FigureLateral'. -/
def figureLateralUptoCard : Claim7 := { stood := { row := figureLateralUptoRow, standIns := [], harness := (true, "5f0afb2feb9d336e46d5eeaa1b3a06700130bd65dcbb704fa96099d471f0297f"), looks := false }, kinds := [], alts := [], laidByText := true, laidKinds := [.data, .data, .data, .data, .data, .data], laidTests := true, laidLooks := .later }
def FigureLateralUptoCardSaid : Prop := Claim7.holds Tryz.pinned (.plain (OpenSpec.upto figureLateralSpec)) figureLateralUptoCard

/-- THE SECOND FORM's CARD OF 'shoeboxlaw05.FigureCentres'. -/
def figureCentresUptoCard : Claim7 := { stood := { row := figureCentresUptoRow, standIns := [], harness := (true, "5f0afb2feb9d336e46d5eeaa1b3a06700130bd65dcbb704fa96099d471f0297f"), looks := false }, kinds := [], alts := [], laidByText := true, laidKinds := [.data, .data, .data, .data, .data, .data], laidTests := true, laidLooks := .later }
def FigureCentresUptoCardSaid : Prop := Claim7.holds Tryz.pinned (.plain (OpenSpec.upto figureCentresSpec)) figureCentresUptoCard
end Rows
end Go.Proofs.YtlhanhijfdnjfaaGreatDoor
