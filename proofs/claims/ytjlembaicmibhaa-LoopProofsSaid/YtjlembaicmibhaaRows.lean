/-
  No cell of these rows narrows 'for every input' (looked for: loops, veiled, ifaces, maps, wideKeys, modest, calm, conditions, laid).
  DERIVED. THE GIVEN ROWS OF THIS SEAT. 6 by the template 'for every input the law returns true; each argument reads behind the call as it read before'; 0 by the template 'total and deterministic' (their statements: YtjlembaicmibhaaTotals.lean).
  GIVEN WITH THE SEED: the statements are not yours to turn. If you find one false, say at which input.
  Laid BY PROGRAM, IN A SANDBOX (cutbox-rows.mjs): the forced cells as the released guide's own fill.sh prints them over the translation 8310cb29fee86adf… (all of the seat's roots in one cut). By AI agents, Wed Nov 11 2026. No macro, syntax, notation, axiom, sorry.
-/
import Derived.Test.YtjlembaicmibhaaChecked
import GoSem.Claim
import GoSem.ClaimJoined
import GoSem.ClaimMapViews
import Derived.JoinedTies
import Derived.KernelRfl
namespace Go.Proofs.Ytjlembaicmibhaa
/- THE CELL 'sum', in the pinned program and in every row, IS THE sha256 OF THE DUMP (.gsa) THAT YtjlembaicmibhaaProg.lean LOADS. Nothing in Lean hashes anything: it is a label: what it is worth is what the hold of that sum in a sandbox is worth. -/
noncomputable def Try.pinned : Pinned := { name := "ytjlembaicmibhaa", sum := "8310cb29fee86adf53ac9397c685b13dfea0e3641723947b4f6646e52ed49550", checked := Try.checked }
namespace Rows
def none {H : Type} : Left H := { results := [], args := [] }

/-- 'shoeboxlaw08.LoopMirrors': WHATEVER THE INPUT: true; the input reads as it did. -/
def loopMirrorsSpec : ChangeSpec := { name := "loopMirrors", fn := fun _ => fun
  | [d1, d2, d3] => { results := [.lit (.bool true)], args := [d1, d2, d3] }
  | _ => none }
def loopMirrorsRow : OpenClaim := { program := "ytjlembaicmibhaa", sum := "8310cb29fee86adf53ac9397c685b13dfea0e3641723947b4f6646e52ed49550", func := "shoebox/shoeboxlaw08.LoopMirrors", spec := "loopMirrors", unfollowed := true, recurses := true, apart := false }
def LoopMirrorsSaid : Prop := loopMirrorsRow.holds Try.pinned (OpenSpec.ofChange loopMirrorsSpec)

/-- ITS FALSE NEIGHBOUR: 'it returns false'. Refute it at one input. -/
def loopMirrorsWrong : ChangeSpec := { name := "loopMirrors", fn := fun _ => fun
  | [d1, d2, d3] => { results := [.lit (.bool false)], args := [d1, d2, d3] }
  | _ => none }
def LoopMirrorsWrongFalsely : Prop := loopMirrorsRow.holds Try.pinned (OpenSpec.ofChange loopMirrorsWrong)

/-- 'shoeboxlaw08.LoopProofs': WHATEVER THE INPUT: true; the input reads as it did. -/
def loopProofsSpec : ChangeSpec := { name := "loopProofs", fn := fun _ => fun
  | [d1, d2, d3] => { results := [.lit (.bool true)], args := [d1, d2, d3] }
  | _ => none }
def loopProofsRow : OpenClaim := { program := "ytjlembaicmibhaa", sum := "8310cb29fee86adf53ac9397c685b13dfea0e3641723947b4f6646e52ed49550", func := "shoebox/shoeboxlaw08.LoopProofs", spec := "loopProofs", unfollowed := true, recurses := true, apart := false }
def LoopProofsSaid : Prop := loopProofsRow.holds Try.pinned (OpenSpec.ofChange loopProofsSpec)

/-- ITS FALSE NEIGHBOUR: 'it returns false'. Refute it at one input. -/
def loopProofsWrong : ChangeSpec := { name := "loopProofs", fn := fun _ => fun
  | [d1, d2, d3] => { results := [.lit (.bool false)], args := [d1, d2, d3] }
  | _ => none }
def LoopProofsWrongFalsely : Prop := loopProofsRow.holds Try.pinned (OpenSpec.ofChange loopProofsWrong)

/-- 'shoeboxlaw08.LoopDecides': WHATEVER THE INPUT: true; the input reads as it did. -/
def loopDecidesSpec : ChangeSpec := { name := "loopDecides", fn := fun _ => fun
  | [d] => { results := [.lit (.bool true)], args := [d] }
  | _ => none }
def loopDecidesRow : OpenClaim := { program := "ytjlembaicmibhaa", sum := "8310cb29fee86adf53ac9397c685b13dfea0e3641723947b4f6646e52ed49550", func := "shoebox/shoeboxlaw08.LoopDecides", spec := "loopDecides", unfollowed := true, recurses := true, apart := false }
def LoopDecidesSaid : Prop := loopDecidesRow.holds Try.pinned (OpenSpec.ofChange loopDecidesSpec)

/-- ITS FALSE NEIGHBOUR: 'it returns false'. Refute it at one input. -/
def loopDecidesWrong : ChangeSpec := { name := "loopDecides", fn := fun _ => fun
  | [d] => { results := [.lit (.bool false)], args := [d] }
  | _ => none }
def LoopDecidesWrongFalsely : Prop := loopDecidesRow.holds Try.pinned (OpenSpec.ofChange loopDecidesWrong)

/-- 'shoeboxlaw08.LoopLesser': WHATEVER THE INPUT: true; the input reads as it did. -/
def loopLesserSpec : ChangeSpec := { name := "loopLesser", fn := fun _ => fun
  | [d1, d2, d3] => { results := [.lit (.bool true)], args := [d1, d2, d3] }
  | _ => none }
def loopLesserRow : OpenClaim := { program := "ytjlembaicmibhaa", sum := "8310cb29fee86adf53ac9397c685b13dfea0e3641723947b4f6646e52ed49550", func := "shoebox/shoeboxlaw08.LoopLesser", spec := "loopLesser", unfollowed := true, recurses := true, apart := false }
def LoopLesserSaid : Prop := loopLesserRow.holds Try.pinned (OpenSpec.ofChange loopLesserSpec)

/-- ITS FALSE NEIGHBOUR: 'it returns false'. Refute it at one input. -/
def loopLesserWrong : ChangeSpec := { name := "loopLesser", fn := fun _ => fun
  | [d1, d2, d3] => { results := [.lit (.bool false)], args := [d1, d2, d3] }
  | _ => none }
def LoopLesserWrongFalsely : Prop := loopLesserRow.holds Try.pinned (OpenSpec.ofChange loopLesserWrong)

/-- 'shoeboxlaw08.LoopFades': WHATEVER THE INPUT: true; the input reads as it did. -/
def loopFadesSpec : ChangeSpec := { name := "loopFades", fn := fun _ => fun
  | [d1, d2] => { results := [.lit (.bool true)], args := [d1, d2] }
  | _ => none }
def loopFadesRow : OpenClaim := { program := "ytjlembaicmibhaa", sum := "8310cb29fee86adf53ac9397c685b13dfea0e3641723947b4f6646e52ed49550", func := "shoebox/shoeboxlaw08.LoopFades", spec := "loopFades", unfollowed := true, recurses := true, apart := false }
def LoopFadesSaid : Prop := loopFadesRow.holds Try.pinned (OpenSpec.ofChange loopFadesSpec)

/-- ITS FALSE NEIGHBOUR: 'it returns false'. Refute it at one input. -/
def loopFadesWrong : ChangeSpec := { name := "loopFades", fn := fun _ => fun
  | [d1, d2] => { results := [.lit (.bool false)], args := [d1, d2] }
  | _ => none }
def LoopFadesWrongFalsely : Prop := loopFadesRow.holds Try.pinned (OpenSpec.ofChange loopFadesWrong)

/-- 'shoeboxlaw08.LoopLinesOf': WHATEVER THE INPUT: true; the input reads as it did. -/
def loopLinesOfSpec : ChangeSpec := { name := "loopLinesOf", fn := fun _ => fun
  | [d] => { results := [.lit (.bool true)], args := [d] }
  | _ => none }
def loopLinesOfRow : OpenClaim := { program := "ytjlembaicmibhaa", sum := "8310cb29fee86adf53ac9397c685b13dfea0e3641723947b4f6646e52ed49550", func := "shoebox/shoeboxlaw08.LoopLinesOf", spec := "loopLinesOf", unfollowed := true, recurses := true, apart := false }
def LoopLinesOfSaid : Prop := loopLinesOfRow.holds Try.pinned (OpenSpec.ofChange loopLinesOfSpec)

/-- ITS FALSE NEIGHBOUR: 'it returns false'. Refute it at one input. -/
def loopLinesOfWrong : ChangeSpec := { name := "loopLinesOf", fn := fun _ => fun
  | [d] => { results := [.lit (.bool false)], args := [d] }
  | _ => none }
def LoopLinesOfWrongFalsely : Prop := loopLinesOfRow.holds Try.pinned (OpenSpec.ofChange loopLinesOfWrong)

/- THE SECOND FORM. 'bulk': how many values and letters a reading holds, each counted each time it is reached (what is shared counts as often as it is met; a slice's spare places count too). A statement '..UptoSaid' is the law's where the arguments, and the package variables that the reading takes, are together of bulk at most 1048576: NARROWER than '..Said'. Prove '..Said' where nothing that the law and all that it calls make is longer than what came in: it says more and counts as full. Else prove '..UptoSaid'. A law counts once. -/
mutual
def uptoBulk {H : Type} : DataW H → Nat
  | .lit (.string bytes) => bytes.length + 1
  | .lit _ => 1
  | .nil => 1
  | .ptr d => uptoBulk d + 1
  | .slice elems spare => uptoBulkAll elems + uptoBulkAll spare + 1
  | .agg parts => uptoBulkAll parts + 1
  | .iface _ d => uptoBulk d + 1
  | .map entries => uptoBulkEntries entries + 1
  | .held _ => 1
def uptoBulkAll {H : Type} : List (DataW H) → Nat
  | [] => 0
  | d :: r => uptoBulk d + uptoBulkAll r
def uptoBulkEntries {H : Type} : List (Lit × DataW H) → Nat
  | [] => 0
  | x :: r => uptoBulkEntry x + uptoBulkEntries r
def uptoBulkEntry {H : Type} : Lit × DataW H → Nat
  | (.string bytes, d) => bytes.length + uptoBulk d + 1
  | (_, d) => uptoBulk d + 1
 end
def uptoSmall : (H : Type) → List (DataW H) → Bool := fun _ ds => decide (uptoBulkAll ds ≤ 1048576)
def OpenSpec.upto (s : _root_.Go.ChangeSpec) : _root_.Go.OpenSpec := { _root_.Go.OpenSpec.ofChange s with cond := some uptoSmall }

/-- 'shoeboxlaw08.LoopMirrors', WHERE WHAT IT READS IS OF BULK AT MOST 1048576: true; the input reads as it did. -/
def loopMirrorsUptoRow : OpenClaim := { program := "ytjlembaicmibhaa", sum := "8310cb29fee86adf53ac9397c685b13dfea0e3641723947b4f6646e52ed49550", func := "shoebox/shoeboxlaw08.LoopMirrors", spec := "loopMirrors", unfollowed := true, recurses := true, apart := false, narrowed := true }
def LoopMirrorsUptoSaid : Prop := loopMirrorsUptoRow.holds Try.pinned (OpenSpec.upto loopMirrorsSpec)

/-- 'shoeboxlaw08.LoopProofs', WHERE WHAT IT READS IS OF BULK AT MOST 1048576: true; the input reads as it did. -/
def loopProofsUptoRow : OpenClaim := { program := "ytjlembaicmibhaa", sum := "8310cb29fee86adf53ac9397c685b13dfea0e3641723947b4f6646e52ed49550", func := "shoebox/shoeboxlaw08.LoopProofs", spec := "loopProofs", unfollowed := true, recurses := true, apart := false, narrowed := true }
def LoopProofsUptoSaid : Prop := loopProofsUptoRow.holds Try.pinned (OpenSpec.upto loopProofsSpec)

/-- 'shoeboxlaw08.LoopDecides', WHERE WHAT IT READS IS OF BULK AT MOST 1048576: true; the input reads as it did. -/
def loopDecidesUptoRow : OpenClaim := { program := "ytjlembaicmibhaa", sum := "8310cb29fee86adf53ac9397c685b13dfea0e3641723947b4f6646e52ed49550", func := "shoebox/shoeboxlaw08.LoopDecides", spec := "loopDecides", unfollowed := true, recurses := true, apart := false, narrowed := true }
def LoopDecidesUptoSaid : Prop := loopDecidesUptoRow.holds Try.pinned (OpenSpec.upto loopDecidesSpec)

/-- 'shoeboxlaw08.LoopLesser', WHERE WHAT IT READS IS OF BULK AT MOST 1048576: true; the input reads as it did. -/
def loopLesserUptoRow : OpenClaim := { program := "ytjlembaicmibhaa", sum := "8310cb29fee86adf53ac9397c685b13dfea0e3641723947b4f6646e52ed49550", func := "shoebox/shoeboxlaw08.LoopLesser", spec := "loopLesser", unfollowed := true, recurses := true, apart := false, narrowed := true }
def LoopLesserUptoSaid : Prop := loopLesserUptoRow.holds Try.pinned (OpenSpec.upto loopLesserSpec)

/-- 'shoeboxlaw08.LoopFades', WHERE WHAT IT READS IS OF BULK AT MOST 1048576: true; the input reads as it did. -/
def loopFadesUptoRow : OpenClaim := { program := "ytjlembaicmibhaa", sum := "8310cb29fee86adf53ac9397c685b13dfea0e3641723947b4f6646e52ed49550", func := "shoebox/shoeboxlaw08.LoopFades", spec := "loopFades", unfollowed := true, recurses := true, apart := false, narrowed := true }
def LoopFadesUptoSaid : Prop := loopFadesUptoRow.holds Try.pinned (OpenSpec.upto loopFadesSpec)

/-- 'shoeboxlaw08.LoopLinesOf', WHERE WHAT IT READS IS OF BULK AT MOST 1048576: true; the input reads as it did. -/
def loopLinesOfUptoRow : OpenClaim := { program := "ytjlembaicmibhaa", sum := "8310cb29fee86adf53ac9397c685b13dfea0e3641723947b4f6646e52ed49550", func := "shoebox/shoeboxlaw08.LoopLinesOf", spec := "loopLinesOf", unfollowed := true, recurses := true, apart := false, narrowed := true }
def LoopLinesOfUptoSaid : Prop := loopLinesOfUptoRow.holds Try.pinned (OpenSpec.upto loopLinesOfSpec)

end Rows
end Go.Proofs.Ytjlembaicmibhaa
