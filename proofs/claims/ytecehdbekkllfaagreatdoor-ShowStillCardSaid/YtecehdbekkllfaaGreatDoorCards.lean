/-
  DERIVED. GIVEN WITH THE SEED: THE CARDS: each row of YtecehdbekkllfaaGreatDoorRows.lean that lists a variable, with what it lists TIED to the program's text (the seventh form; the later family's looks); each row that meets fmt, with fmt's text TOLD by the authors' own Lean function (tested against real Go, not proved from fmt's source: count such statements apart). THE CARD IS WHAT COUNTS. Prove the row's statement (the work); the ties are given (YtecehdbekkllfaaGreatDoorTie.lean); close each card by the builder's one call (the guide's Derived/Test/ToyasCard.lean, 'card_holds'). Laid BY PROGRAM, IN A SANDBOX (cutbox-door.mjs). By AI agents, Wed Nov 11 2026. No macro, syntax, notation, axiom, sorry.
-/
import Derived.Test.YtecehdbekkllfaaGreatDoorRows
import GoSem.ClaimSeven
namespace Go.Proofs.YtecehdbekkllfaaGreatDoor
namespace Rows

/-- THE TIED CARD OF 'shoeboxlaw10.ShowStill'. -/
def showStillCard : Claim7 := { stood := { row := showStillRow, standIns := [], harness := (true, "cfefddb6dbd81f52fee9c9e4cf8907d6334aa6b7434cdf1dd85d0ba1dccafa06"), looks := true }, kinds := [], alts := [], laidByText := true, laidKinds := [.data, .data, .data, .data, .sentinel, .sentinel, .data, .data, .data, .pinned], laidTests := true, laidLooks := .later }
def ShowStillCardSaid : Prop := Claim7.holds Tryz.pinned (.plain (OpenSpec.ofChange showStillSpec)) showStillCard

/-- THE SECOND FORM's CARD OF 'shoeboxlaw10.ShowStill'. -/
def showStillUptoCard : Claim7 := { stood := { row := showStillUptoRow, standIns := [], harness := (true, "cfefddb6dbd81f52fee9c9e4cf8907d6334aa6b7434cdf1dd85d0ba1dccafa06"), looks := true }, kinds := [], alts := [], laidByText := true, laidKinds := [.data, .data, .data, .data, .sentinel, .sentinel, .data, .data, .data, .pinned], laidTests := true, laidLooks := .later }
def ShowStillUptoCardSaid : Prop := Claim7.holds Tryz.pinned (.plain (OpenSpec.upto showStillSpec)) showStillUptoCard
end Rows
end Go.Proofs.YtecehdbekkllfaaGreatDoor
