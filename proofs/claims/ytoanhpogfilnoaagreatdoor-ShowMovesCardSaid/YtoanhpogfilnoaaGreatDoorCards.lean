/-
  DERIVED. GIVEN WITH THE SEED: THE CARDS: each row of YtoanhpogfilnoaaGreatDoorRows.lean that lists a variable, with what it lists TIED to the program's text (the seventh form; the later family's looks); each row that meets fmt, with fmt's text TOLD by the authors' own Lean function (tested against real Go, not proved from fmt's source: count such statements apart). THE CARD IS WHAT COUNTS. Prove the row's statement (the work); the ties are given (YtoanhpogfilnoaaGreatDoorTie.lean); close each card by the builder's one call (the guide's Derived/Test/ToyasCard.lean, 'card_holds'). Laid BY PROGRAM, IN A SANDBOX (cutbox-door.mjs). By AI agents, Wed Nov 11 2026. No macro, syntax, notation, axiom, sorry.
-/
import Derived.Test.YtoanhpogfilnoaaGreatDoorRows
import GoSem.ClaimSeven
namespace Go.Proofs.YtoanhpogfilnoaaGreatDoor
namespace Rows

/-- THE TIED CARD OF 'shoeboxlaw10.ShowFades'. -/
def showFadesCard : Claim7 := { stood := { row := showFadesRow, standIns := [], harness := (true, "ecd711022e2a576f5d74915dee45b3b4aa64ba3bc8789d8bcf0e98caae7dde5b"), looks := true }, kinds := [], alts := [], laidByText := true, laidKinds := [.data, .data, .data, .data, .sentinel, .sentinel, .data, .data, .data, .pinned], laidTests := true, laidLooks := .later }
def ShowFadesCardSaid : Prop := Claim7.holds Tryz.pinned (.plain (OpenSpec.ofChange showFadesSpec)) showFadesCard

/-- THE TIED CARD OF 'shoeboxlaw10.ShowMoves'. -/
def showMovesCard : Claim7 := { stood := { row := showMovesRow, standIns := [], harness := (true, "ecd711022e2a576f5d74915dee45b3b4aa64ba3bc8789d8bcf0e98caae7dde5b"), looks := true }, kinds := [], alts := [], laidByText := true, laidKinds := [.data, .data, .data, .data, .sentinel, .sentinel, .data, .data, .data, .pinned], laidTests := true, laidLooks := .later }
def ShowMovesCardSaid : Prop := Claim7.holds Tryz.pinned (.plain (OpenSpec.ofChange showMovesSpec)) showMovesCard

/-- THE TIED CARD OF 'shoeboxlaw10.ShowStill'. -/
def showStillCard : Claim7 := { stood := { row := showStillRow, standIns := [], harness := (true, "ecd711022e2a576f5d74915dee45b3b4aa64ba3bc8789d8bcf0e98caae7dde5b"), looks := true }, kinds := [], alts := [], laidByText := true, laidKinds := [.data, .data, .data, .data, .sentinel, .sentinel, .data, .data, .data, .pinned], laidTests := true, laidLooks := .later }
def ShowStillCardSaid : Prop := Claim7.holds Tryz.pinned (.plain (OpenSpec.ofChange showStillSpec)) showStillCard

/-- THE SECOND FORM's CARD OF 'shoeboxlaw10.ShowFades'. -/
def showFadesUptoCard : Claim7 := { stood := { row := showFadesUptoRow, standIns := [], harness := (true, "ecd711022e2a576f5d74915dee45b3b4aa64ba3bc8789d8bcf0e98caae7dde5b"), looks := true }, kinds := [], alts := [], laidByText := true, laidKinds := [.data, .data, .data, .data, .sentinel, .sentinel, .data, .data, .data, .pinned], laidTests := true, laidLooks := .later }
def ShowFadesUptoCardSaid : Prop := Claim7.holds Tryz.pinned (.plain (OpenSpec.upto showFadesSpec)) showFadesUptoCard

/-- THE SECOND FORM's CARD OF 'shoeboxlaw10.ShowMoves'. -/
def showMovesUptoCard : Claim7 := { stood := { row := showMovesUptoRow, standIns := [], harness := (true, "ecd711022e2a576f5d74915dee45b3b4aa64ba3bc8789d8bcf0e98caae7dde5b"), looks := true }, kinds := [], alts := [], laidByText := true, laidKinds := [.data, .data, .data, .data, .sentinel, .sentinel, .data, .data, .data, .pinned], laidTests := true, laidLooks := .later }
def ShowMovesUptoCardSaid : Prop := Claim7.holds Tryz.pinned (.plain (OpenSpec.upto showMovesSpec)) showMovesUptoCard

/-- THE SECOND FORM's CARD OF 'shoeboxlaw10.ShowStill'. -/
def showStillUptoCard : Claim7 := { stood := { row := showStillUptoRow, standIns := [], harness := (true, "ecd711022e2a576f5d74915dee45b3b4aa64ba3bc8789d8bcf0e98caae7dde5b"), looks := true }, kinds := [], alts := [], laidByText := true, laidKinds := [.data, .data, .data, .data, .sentinel, .sentinel, .data, .data, .data, .pinned], laidTests := true, laidLooks := .later }
def ShowStillUptoCardSaid : Prop := Claim7.holds Tryz.pinned (.plain (OpenSpec.upto showStillSpec)) showStillUptoCard
end Rows
end Go.Proofs.YtoanhpogfilnoaaGreatDoor
