/-
  DERIVED. GIVEN WITH THE SEED: THE CARDS: each row of YtjhneebncpmneaaGreatDoorRows.lean that lists a variable, with what it lists TIED to the program's text (the seventh form; the later family's looks); each row that meets fmt, with fmt's text TOLD by the authors' own Lean function (tested against real Go, not proved from fmt's source: count such statements apart). THE CARD IS WHAT COUNTS. Prove the row's statement (the work); the ties are given (YtjhneebncpmneaaGreatDoorTie.lean); close each card by the builder's one call (the guide's Derived/Test/ToyasCard.lean, 'card_holds'). Laid BY PROGRAM, IN A SANDBOX (cutbox-door.mjs). By AI agents, Wed Nov 11 2026. No macro, syntax, notation, axiom, sorry.
-/
import Derived.Test.YtjhneebncpmneaaGreatDoorRows
import GoSem.ClaimSeven
namespace Go.Proofs.YtjhneebncpmneaaGreatDoor
namespace Rows

/-- THE TIED CARD OF 'shoeboxlaw05.FigureDecays'. -/
def figureDecaysCard : Claim7 := { stood := { row := figureDecaysRow, standIns := [], harness := (true, "582848a707d3301c304e54dc352412ece803026c9676c1fd3c0e974c62f66750"), looks := true }, kinds := [], alts := [], laidByText := true, laidKinds := [.data, .data, .data, .data, .data, .data], laidTests := true, laidLooks := .later }
def FigureDecaysCardSaid : Prop := Claim7.holds Tryz.pinned (.plain (OpenSpec.ofChange figureDecaysSpec)) figureDecaysCard

/-- THE TIED CARD OF 'shoeboxlaw05.FigureLevels'. -/
def figureLevelsCard : Claim7 := { stood := { row := figureLevelsRow, standIns := [], harness := (true, "582848a707d3301c304e54dc352412ece803026c9676c1fd3c0e974c62f66750"), looks := true }, kinds := [], alts := [], laidByText := true, laidKinds := [.data, .data, .data, .data, .data, .data], laidTests := true, laidLooks := .later }
def FigureLevelsCardSaid : Prop := Claim7.holds Tryz.pinned (.plain (OpenSpec.ofChange figureLevelsSpec)) figureLevelsCard

/-- THE TIED CARD OF 'shoeboxlaw05.FigureClarity'. -/
def figureClarityCard : Claim7 := { stood := { row := figureClarityRow, standIns := [], harness := (true, "582848a707d3301c304e54dc352412ece803026c9676c1fd3c0e974c62f66750"), looks := true }, kinds := [], alts := [], laidByText := true, laidKinds := [.data, .data, .data, .data, .data, .data], laidTests := true, laidLooks := .later }
def FigureClarityCardSaid : Prop := Claim7.holds Tryz.pinned (.plain (OpenSpec.ofChange figureClaritySpec)) figureClarityCard

/-- THE TIED CARD OF 'shoeboxlaw05.FigureDefinitions'. -/
def figureDefinitionsCard : Claim7 := { stood := { row := figureDefinitionsRow, standIns := [], harness := (true, "582848a707d3301c304e54dc352412ece803026c9676c1fd3c0e974c62f66750"), looks := true }, kinds := [], alts := [], laidByText := true, laidKinds := [.data, .data, .data, .data, .data, .data], laidTests := true, laidLooks := .later }
def FigureDefinitionsCardSaid : Prop := Claim7.holds Tryz.pinned (.plain (OpenSpec.ofChange figureDefinitionsSpec)) figureDefinitionsCard

/-- THE TIED CARD OF 'shoeboxlaw05.FigureModulates'. -/
def figureModulatesCard : Claim7 := { stood := { row := figureModulatesRow, standIns := [], harness := (true, "582848a707d3301c304e54dc352412ece803026c9676c1fd3c0e974c62f66750"), looks := true }, kinds := [], alts := [], laidByText := true, laidKinds := [.data, .data, .data, .data, .data, .data], laidTests := true, laidLooks := .later }
def FigureModulatesCardSaid : Prop := Claim7.holds Tryz.pinned (.plain (OpenSpec.ofChange figureModulatesSpec)) figureModulatesCard

/-- THE TIED CARD OF 'shoeboxlaw05.FigureSheets'. -/
def figureSheetsCard : Claim7 := { stood := { row := figureSheetsRow, standIns := [], harness := (true, "582848a707d3301c304e54dc352412ece803026c9676c1fd3c0e974c62f66750"), looks := true }, kinds := [], alts := [], laidByText := true, laidKinds := [.data, .data, .data, .data, .sentinel, .sentinel, .data, .data, .data, .pinned], laidTests := true, laidLooks := .later }
def FigureSheetsCardSaid : Prop := Claim7.holds Tryz.pinned (.plain (OpenSpec.ofChange figureSheetsSpec)) figureSheetsCard

/-- THE TIED CARD OF 'shoeboxlaw05.FigureCompares'. -/
def figureComparesCard : Claim7 := { stood := { row := figureComparesRow, standIns := [], harness := (true, "582848a707d3301c304e54dc352412ece803026c9676c1fd3c0e974c62f66750"), looks := true }, kinds := [], alts := [], laidByText := true, laidKinds := [.data, .data, .data, .data, .data, .data], laidTests := true, laidLooks := .later }
def FigureComparesCardSaid : Prop := Claim7.holds Tryz.pinned (.plain (OpenSpec.ofChange figureComparesSpec)) figureComparesCard

/-- THE TIED CARD OF 'shoeboxlaw05.FigureWithin'. -/
def figureWithinCard : Claim7 := { stood := { row := figureWithinRow, standIns := [], harness := (true, "582848a707d3301c304e54dc352412ece803026c9676c1fd3c0e974c62f66750"), looks := true }, kinds := [], alts := [], laidByText := true, laidKinds := [.data, .data, .data, .data, .data, .data], laidTests := true, laidLooks := .later }
def FigureWithinCardSaid : Prop := Claim7.holds Tryz.pinned (.plain (OpenSpec.ofChange figureWithinSpec)) figureWithinCard

/-- THE TIED CARD OF 'shoeboxlaw05.FigureScales'. -/
def figureScalesCard : Claim7 := { stood := { row := figureScalesRow, standIns := [], harness := (true, "582848a707d3301c304e54dc352412ece803026c9676c1fd3c0e974c62f66750"), looks := true }, kinds := [], alts := [], laidByText := true, laidKinds := [.data, .data, .data, .data, .data, .data], laidTests := true, laidLooks := .later }
def FigureScalesCardSaid : Prop := Claim7.holds Tryz.pinned (.plain (OpenSpec.ofChange figureScalesSpec)) figureScalesCard

/-- THE SECOND FORM's CARD OF 'shoeboxlaw05.FigureDecays'. -/
def figureDecaysUptoCard : Claim7 := { stood := { row := figureDecaysUptoRow, standIns := [], harness := (true, "582848a707d3301c304e54dc352412ece803026c9676c1fd3c0e974c62f66750"), looks := true }, kinds := [], alts := [], laidByText := true, laidKinds := [.data, .data, .data, .data, .data, .data], laidTests := true, laidLooks := .later }
def FigureDecaysUptoCardSaid : Prop := Claim7.holds Tryz.pinned (.plain (OpenSpec.upto figureDecaysSpec)) figureDecaysUptoCard

/-- THE SECOND FORM's CARD OF 'shoeboxlaw05.FigureLevels'. -/
def figureLevelsUptoCard : Claim7 := { stood := { row := figureLevelsUptoRow, standIns := [], harness := (true, "582848a707d3301c304e54dc352412ece803026c9676c1fd3c0e974c62f66750"), looks := true }, kinds := [], alts := [], laidByText := true, laidKinds := [.data, .data, .data, .data, .data, .data], laidTests := true, laidLooks := .later }
def FigureLevelsUptoCardSaid : Prop := Claim7.holds Tryz.pinned (.plain (OpenSpec.upto figureLevelsSpec)) figureLevelsUptoCard

/-- THE SECOND FORM's CARD OF 'shoeboxlaw05.FigureClarity'. -/
def figureClarityUptoCard : Claim7 := { stood := { row := figureClarityUptoRow, standIns := [], harness := (true, "582848a707d3301c304e54dc352412ece803026c9676c1fd3c0e974c62f66750"), looks := true }, kinds := [], alts := [], laidByText := true, laidKinds := [.data, .data, .data, .data, .data, .data], laidTests := true, laidLooks := .later }
def FigureClarityUptoCardSaid : Prop := Claim7.holds Tryz.pinned (.plain (OpenSpec.upto figureClaritySpec)) figureClarityUptoCard

/-- THE SECOND FORM's CARD OF 'shoeboxlaw05.FigureDefinitions'. -/
def figureDefinitionsUptoCard : Claim7 := { stood := { row := figureDefinitionsUptoRow, standIns := [], harness := (true, "582848a707d3301c304e54dc352412ece803026c9676c1fd3c0e974c62f66750"), looks := true }, kinds := [], alts := [], laidByText := true, laidKinds := [.data, .data, .data, .data, .data, .data], laidTests := true, laidLooks := .later }
def FigureDefinitionsUptoCardSaid : Prop := Claim7.holds Tryz.pinned (.plain (OpenSpec.upto figureDefinitionsSpec)) figureDefinitionsUptoCard

/-- THE SECOND FORM's CARD OF 'shoeboxlaw05.FigureModulates'. -/
def figureModulatesUptoCard : Claim7 := { stood := { row := figureModulatesUptoRow, standIns := [], harness := (true, "582848a707d3301c304e54dc352412ece803026c9676c1fd3c0e974c62f66750"), looks := true }, kinds := [], alts := [], laidByText := true, laidKinds := [.data, .data, .data, .data, .data, .data], laidTests := true, laidLooks := .later }
def FigureModulatesUptoCardSaid : Prop := Claim7.holds Tryz.pinned (.plain (OpenSpec.upto figureModulatesSpec)) figureModulatesUptoCard

/-- THE SECOND FORM's CARD OF 'shoeboxlaw05.FigureSheets'. -/
def figureSheetsUptoCard : Claim7 := { stood := { row := figureSheetsUptoRow, standIns := [], harness := (true, "582848a707d3301c304e54dc352412ece803026c9676c1fd3c0e974c62f66750"), looks := true }, kinds := [], alts := [], laidByText := true, laidKinds := [.data, .data, .data, .data, .sentinel, .sentinel, .data, .data, .data, .pinned], laidTests := true, laidLooks := .later }
def FigureSheetsUptoCardSaid : Prop := Claim7.holds Tryz.pinned (.plain (OpenSpec.upto figureSheetsSpec)) figureSheetsUptoCard

/-- THE SECOND FORM's CARD OF 'shoeboxlaw05.FigureCompares'. -/
def figureComparesUptoCard : Claim7 := { stood := { row := figureComparesUptoRow, standIns := [], harness := (true, "582848a707d3301c304e54dc352412ece803026c9676c1fd3c0e974c62f66750"), looks := true }, kinds := [], alts := [], laidByText := true, laidKinds := [.data, .data, .data, .data, .data, .data], laidTests := true, laidLooks := .later }
def FigureComparesUptoCardSaid : Prop := Claim7.holds Tryz.pinned (.plain (OpenSpec.upto figureComparesSpec)) figureComparesUptoCard

/-- THE SECOND FORM's CARD OF 'shoeboxlaw05.FigureWithin'. -/
def figureWithinUptoCard : Claim7 := { stood := { row := figureWithinUptoRow, standIns := [], harness := (true, "582848a707d3301c304e54dc352412ece803026c9676c1fd3c0e974c62f66750"), looks := true }, kinds := [], alts := [], laidByText := true, laidKinds := [.data, .data, .data, .data, .data, .data], laidTests := true, laidLooks := .later }
def FigureWithinUptoCardSaid : Prop := Claim7.holds Tryz.pinned (.plain (OpenSpec.upto figureWithinSpec)) figureWithinUptoCard

/-- THE SECOND FORM's CARD OF 'shoeboxlaw05.FigureScales'. -/
def figureScalesUptoCard : Claim7 := { stood := { row := figureScalesUptoRow, standIns := [], harness := (true, "582848a707d3301c304e54dc352412ece803026c9676c1fd3c0e974c62f66750"), looks := true }, kinds := [], alts := [], laidByText := true, laidKinds := [.data, .data, .data, .data, .data, .data], laidTests := true, laidLooks := .later }
def FigureScalesUptoCardSaid : Prop := Claim7.holds Tryz.pinned (.plain (OpenSpec.upto figureScalesSpec)) figureScalesUptoCard
end Rows
end Go.Proofs.YtjhneebncpmneaaGreatDoor
