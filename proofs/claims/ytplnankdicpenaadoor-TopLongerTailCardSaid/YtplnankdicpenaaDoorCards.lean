/-
  DERIVED. GIVEN WITH THE SEED: THE CARDS: each row of YtplnankdicpenaaDoorRows.lean that lists a variable, with what it lists TIED to the program's text (the seventh form; the later family's looks); each row that meets fmt, with fmt's text TOLD by the authors' own Lean function (tested against real Go, not proved from fmt's source: count such statements apart). THE CARD IS WHAT COUNTS. Prove the row's statement (the work); the ties are given (YtplnankdicpenaaDoorTie.lean); close each card by the builder's one call (the guide's Derived/Test/ToyasCard.lean, 'card_holds'). Laid BY PROGRAM, IN A SANDBOX (cutbox-door.mjs). By AI agents, Wed Nov 11 2026. No macro, syntax, notation, axiom, sorry.
-/
import Derived.Test.YtplnankdicpenaaDoorRows
import GoSem.ClaimSeven
namespace Go.Proofs.YtplnankdicpenaaDoor
namespace Rows

/-- THE TIED CARD OF 'shoeboxtop.TopLongerTail'. -/
def topLongerTailCard : Claim7 := { stood := { row := topLongerTailRow, standIns := [], harness := (true, "baeec455870b2789ad209280a8a9dfeb59488c5be53ec54c6be1f3086616c933"), looks := false }, kinds := [], alts := [], laidByText := true, laidKinds := [.data, .data, .data, .data, .data], laidTests := true, laidLooks := .later }
def TopLongerTailCardSaid : Prop := Claim7.holds Tryd.pinned (.plain (OpenSpec.ofChange topLongerTailSpec)) topLongerTailCard

/-- THE SECOND FORM's CARD OF 'shoeboxtop.TopLongerTail'. -/
def topLongerTailUptoCard : Claim7 := { stood := { row := topLongerTailUptoRow, standIns := [], harness := (true, "baeec455870b2789ad209280a8a9dfeb59488c5be53ec54c6be1f3086616c933"), looks := false }, kinds := [], alts := [], laidByText := true, laidKinds := [.data, .data, .data, .data, .data], laidTests := true, laidLooks := .later }
def TopLongerTailUptoCardSaid : Prop := Claim7.holds Tryd.pinned (.plain (OpenSpec.upto topLongerTailSpec)) topLongerTailUptoCard
end Rows
end Go.Proofs.YtplnankdicpenaaDoor
