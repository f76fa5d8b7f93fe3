/-
  No cell of these rows narrows 'for every input' (looked for: loops, veiled, ifaces, maps, wideKeys, modest, calm, conditions, laid).
  DERIVED. THE GIVEN ROWS OF THIS SEAT. 6 by the template 'for every input the law returns true; each argument reads behind the call as it read before'; 0 by the template 'total and deterministic' (their statements: YtnjbkoobeobfiaaGreatTotals.lean).
  GIVEN WITH THE SEED: the statements are not yours to turn. If you find one false, say at which input.
  Laid BY PROGRAM, IN A SANDBOX (cutbox-rows.mjs): the forced cells as the released guide's own fill.sh prints them over the translation cfff3e83d295155e… (all of the seat's roots in one cut). By AI agents, Wed Nov 11 2026. No macro, syntax, notation, axiom, sorry.
-/
import Derived.Test.YtnjbkoobeobfiaaGreatChecked
import GoSem.Claim
import GoSem.ClaimJoined
import GoSem.ClaimMapViews
import Derived.JoinedTies
import Derived.KernelRfl
namespace Go.Proofs.YtnjbkoobeobfiaaGreat
/- THE CELL 'sum', in the pinned program and in every row, IS THE sha256 OF THE DUMP (.gsa) THAT YtnjbkoobeobfiaaGreatProg.lean LOADS. Nothing in Lean hashes anything: it is a label: what it is worth is what the hold of that sum in a sandbox is worth. -/
noncomputable def Tryz.pinned : Pinned := { name := "ytnjbkoobeobfiaagreat", sum := "cfff3e83d295155e16fe8c998b9a342982b6f1ac3795741f79f4df2420112584", checked := Tryz.checked }
namespace Rows
def none {H : Type} : Left H := { results := [], args := [] }

/-- 'shoeboxlaw03.EnergyArrives': WHATEVER THE INPUT: true; the input reads as it did. -/
def energyArrivesSpec : ChangeSpec := { name := "energyArrives", fn := fun _ => fun
  | [d1, d2, d3] => { results := [.lit (.bool true)], args := [d1, d2, d3] }
  | _ => none }
def energyArrivesRow : OpenClaim := { program := "ytnjbkoobeobfiaagreat", sum := "cfff3e83d295155e16fe8c998b9a342982b6f1ac3795741f79f4df2420112584", func := "shoebox/shoeboxlaw03.EnergyArrives", spec := "energyArrives", inPlace := ["internal/abi.NoEscape", "internal/bytealg.MakeNoZero"], unfollowed := true, recurses := true, apart := false }
def EnergyArrivesSaid : Prop := energyArrivesRow.holds Tryz.pinned (OpenSpec.ofChange energyArrivesSpec)

/-- ITS FALSE NEIGHBOUR: 'it returns false'. Refute it at one input. -/
def energyArrivesWrong : ChangeSpec := { name := "energyArrives", fn := fun _ => fun
  | [d1, d2, d3] => { results := [.lit (.bool false)], args := [d1, d2, d3] }
  | _ => none }
def EnergyArrivesWrongFalsely : Prop := energyArrivesRow.holds Tryz.pinned (OpenSpec.ofChange energyArrivesWrong)

/-- 'shoeboxlaw03.EnergySteps': WHATEVER THE INPUT: true; the input reads as it did. -/
def energyStepsSpec : ChangeSpec := { name := "energySteps", fn := fun _ => fun
  | [d1, d2, d3] => { results := [.lit (.bool true)], args := [d1, d2, d3] }
  | _ => none }
def energyStepsRow : OpenClaim := { program := "ytnjbkoobeobfiaagreat", sum := "cfff3e83d295155e16fe8c998b9a342982b6f1ac3795741f79f4df2420112584", func := "shoebox/shoeboxlaw03.EnergySteps", spec := "energySteps", inPlace := ["internal/abi.NoEscape", "internal/bytealg.MakeNoZero"], unfollowed := true, recurses := true, apart := false }
def EnergyStepsSaid : Prop := energyStepsRow.holds Tryz.pinned (OpenSpec.ofChange energyStepsSpec)

/-- ITS FALSE NEIGHBOUR: 'it returns false'. Refute it at one input. -/
def energyStepsWrong : ChangeSpec := { name := "energySteps", fn := fun _ => fun
  | [d1, d2, d3] => { results := [.lit (.bool false)], args := [d1, d2, d3] }
  | _ => none }
def EnergyStepsWrongFalsely : Prop := energyStepsRow.holds Tryz.pinned (OpenSpec.ofChange energyStepsWrong)

/-- 'shoeboxlaw03.EnergyKept': WHATEVER THE INPUT: true; the input reads as it did. -/
def energyKeptSpec : ChangeSpec := { name := "energyKept", fn := fun _ => fun
  | [d1, d2, d3] => { results := [.lit (.bool true)], args := [d1, d2, d3] }
  | _ => none }
def energyKeptRow : OpenClaim := { program := "ytnjbkoobeobfiaagreat", sum := "cfff3e83d295155e16fe8c998b9a342982b6f1ac3795741f79f4df2420112584", func := "shoebox/shoeboxlaw03.EnergyKept", spec := "energyKept", inPlace := ["internal/abi.NoEscape", "internal/bytealg.MakeNoZero"], unfollowed := true, recurses := true, apart := false }
def EnergyKeptSaid : Prop := energyKeptRow.holds Tryz.pinned (OpenSpec.ofChange energyKeptSpec)

/-- ITS FALSE NEIGHBOUR: 'it returns false'. Refute it at one input. -/
def energyKeptWrong : ChangeSpec := { name := "energyKept", fn := fun _ => fun
  | [d1, d2, d3] => { results := [.lit (.bool false)], args := [d1, d2, d3] }
  | _ => none }
def EnergyKeptWrongFalsely : Prop := energyKeptRow.holds Tryz.pinned (OpenSpec.ofChange energyKeptWrong)

/-- 'shoeboxlaw03.EnergyBounded': WHATEVER THE INPUT: true; the input reads as it did. -/
def energyBoundedSpec : ChangeSpec := { name := "energyBounded", fn := fun _ => fun
  | [d1, d2, d3] => { results := [.lit (.bool true)], args := [d1, d2, d3] }
  | _ => none }
def energyBoundedRow : OpenClaim := { program := "ytnjbkoobeobfiaagreat", sum := "cfff3e83d295155e16fe8c998b9a342982b6f1ac3795741f79f4df2420112584", func := "shoebox/shoeboxlaw03.EnergyBounded", spec := "energyBounded", inPlace := ["internal/abi.NoEscape", "internal/bytealg.MakeNoZero"], unfollowed := true, recurses := true, apart := false }
def EnergyBoundedSaid : Prop := energyBoundedRow.holds Tryz.pinned (OpenSpec.ofChange energyBoundedSpec)

/-- ITS FALSE NEIGHBOUR: 'it returns false'. Refute it at one input. -/
def energyBoundedWrong : ChangeSpec := { name := "energyBounded", fn := fun _ => fun
  | [d1, d2, d3] => { results := [.lit (.bool false)], args := [d1, d2, d3] }
  | _ => none }
def EnergyBoundedWrongFalsely : Prop := energyBoundedRow.holds Tryz.pinned (OpenSpec.ofChange energyBoundedWrong)

/-- 'shoeboxlaw03.EnergyDecays': WHATEVER THE INPUT: true; the input reads as it did. -/
def energyDecaysSpec : ChangeSpec := { name := "energyDecays", fn := fun _ => fun
  | [d1, d2, d3] => { results := [.lit (.bool true)], args := [d1, d2, d3] }
  | _ => none }
def energyDecaysRow : OpenClaim := { program := "ytnjbkoobeobfiaagreat", sum := "cfff3e83d295155e16fe8c998b9a342982b6f1ac3795741f79f4df2420112584", func := "shoebox/shoeboxlaw03.EnergyDecays", spec := "energyDecays", inPlace := ["internal/abi.NoEscape", "internal/bytealg.MakeNoZero"], unfollowed := true, recurses := true, apart := false }
def EnergyDecaysSaid : Prop := energyDecaysRow.holds Tryz.pinned (OpenSpec.ofChange energyDecaysSpec)

/-- ITS FALSE NEIGHBOUR: 'it returns false'. Refute it at one input. -/
def energyDecaysWrong : ChangeSpec := { name := "energyDecays", fn := fun _ => fun
  | [d1, d2, d3] => { results := [.lit (.bool false)], args := [d1, d2, d3] }
  | _ => none }
def EnergyDecaysWrongFalsely : Prop := energyDecaysRow.holds Tryz.pinned (OpenSpec.ofChange energyDecaysWrong)

/-- 'shoeboxlaw03.EnergyReciprocals': WHATEVER THE INPUT: true; the input reads as it did. -/
def energyReciprocalsSpec : ChangeSpec := { name := "energyReciprocals", fn := fun _ => fun
  | [d1, d2] => { results := [.lit (.bool true)], args := [d1, d2] }
  | _ => none }
def energyReciprocalsRow : OpenClaim := { program := "ytnjbkoobeobfiaagreat", sum := "cfff3e83d295155e16fe8c998b9a342982b6f1ac3795741f79f4df2420112584", func := "shoebox/shoeboxlaw03.EnergyReciprocals", spec := "energyReciprocals", inPlace := ["internal/abi.NoEscape", "internal/bytealg.MakeNoZero"], unfollowed := true, recurses := true, apart := false }
def EnergyReciprocalsSaid : Prop := energyReciprocalsRow.holds Tryz.pinned (OpenSpec.ofChange energyReciprocalsSpec)

/-- ITS FALSE NEIGHBOUR: 'it returns false'. Refute it at one input. -/
def energyReciprocalsWrong : ChangeSpec := { name := "energyReciprocals", fn := fun _ => fun
  | [d1, d2] => { results := [.lit (.bool false)], args := [d1, d2] }
  | _ => none }
def EnergyReciprocalsWrongFalsely : Prop := energyReciprocalsRow.holds Tryz.pinned (OpenSpec.ofChange energyReciprocalsWrong)

/- THE SECOND FORM. 'bulk': how many values and letters a reading holds, each counted each time it is reached (what is shared counts as often as it is met; a slice's spare places count too). A statement '..UptoSaid' is the law's where the arguments, and the package variables that the reading takes, are together of bulk at most 1048576: NARROWER than '..Said'. Prove '..Said' where nothing that the law and all that it calls make is longer than what came in: it says more and counts as full. Else prove '..UptoSaid'. A law counts once. -/
mutual
def uptoBulk {H : Type} : DataW H → Nat
  | .lit (.string bytes) => bytes.length + 1
  | .lit _ => 1
  | .nil => 1
  | .ptr d => uptoBulk d + 1
  | .slice elems spare => uptoBulkAll elems + uptoBulkAll spare + 1
  | .agg parts => uptoBulkAll parts + 1
  | .iface _ d => uptoBulk d + 1
  | .map entries => uptoBulkEntries entries + 1
  | .held _ => 1
def uptoBulkAll {H : Type} : List (DataW H) → Nat
  | [] => 0
  | d :: r => uptoBulk d + uptoBulkAll r
def uptoBulkEntries {H : Type} : List (Lit × DataW H) → Nat
  | [] => 0
  | x :: r => uptoBulkEntry x + uptoBulkEntries r
def uptoBulkEntry {H : Type} : Lit × DataW H → Nat
  | (.string bytes, d) => bytes.length + uptoBulk d + 1
  | (_, d) => uptoBulk d + 1
 end
def uptoSmall : (H : Type) → List (DataW H) → Bool := fun _ ds => decide (uptoBulkAll ds ≤ 1048576)
def OpenSpec.upto (s : _root_.Go.ChangeSpec) : _root_.Go.OpenSpec := { _root_.Go.OpenSpec.ofChange s with cond := some uptoSmall }

/-- 'shoeboxlaw03.EnergyArrives', WHERE WHAT IT READS IS OF BULK AT MOST 1048576: true; the input reads as it did. -/
def energyArrivesUptoRow : OpenClaim := { program := "ytnjbkoobeobfiaagreat", sum := "cfff3e83d295155e16fe8c998b9a342982b6f1ac3795741f79f4df2420112584", func := "shoebox/shoeboxlaw03.EnergyArrives", spec := "energyArrives", inPlace := ["internal/abi.NoEscape", "internal/bytealg.MakeNoZero"], unfollowed := true, recurses := true, apart := false, narrowed := true }
def EnergyArrivesUptoSaid : Prop := energyArrivesUptoRow.holds Tryz.pinned (OpenSpec.upto energyArrivesSpec)

/-- 'shoeboxlaw03.EnergySteps', WHERE WHAT IT READS IS OF BULK AT MOST 1048576: true; the input reads as it did. -/
def energyStepsUptoRow : OpenClaim := { program := "ytnjbkoobeobfiaagreat", sum := "cfff3e83d295155e16fe8c998b9a342982b6f1ac3795741f79f4df2420112584", func := "shoebox/shoeboxlaw03.EnergySteps", spec := "energySteps", inPlace := ["internal/abi.NoEscape", "internal/bytealg.MakeNoZero"], unfollowed := true, recurses := true, apart := false, narrowed := true }
def EnergyStepsUptoSaid : Prop := energyStepsUptoRow.holds Tryz.pinned (OpenSpec.upto energyStepsSpec)

/-- 'shoeboxlaw03.EnergyKept', WHERE WHAT IT READS IS OF BULK AT MOST 1048576: true; the input reads as it did. -/
def energyKeptUptoRow : OpenClaim := { program := "ytnjbkoobeobfiaagreat", sum := "cfff3e83d295155e16fe8c998b9a342982b6f1ac3795741f79f4df2420112584", func := "shoebox/shoeboxlaw03.EnergyKept", spec := "energyKept", inPlace := ["internal/abi.NoEscape", "internal/bytealg.MakeNoZero"], unfollowed := true, recurses := true, apart := false, narrowed := true }
def EnergyKeptUptoSaid : Prop := energyKeptUptoRow.holds Tryz.pinned (OpenSpec.upto energyKeptSpec)

/-- 'shoeboxlaw03.EnergyBounded', WHERE WHAT IT READS IS OF BULK AT MOST 1048576: true; the input reads as it did. -/
def energyBoundedUptoRow : OpenClaim := { program := "ytnjbkoobeobfiaagreat", sum := "cfff3e83d295155e16fe8c998b9a342982b6f1ac3795741f79f4df2420112584", func := "shoebox/shoeboxlaw03.EnergyBounded", spec := "energyBounded", inPlace := ["internal/abi.NoEscape", "internal/bytealg.MakeNoZero"], unfollowed := true, recurses := true, apart := false, narrowed := true }
def EnergyBoundedUptoSaid : Prop := energyBoundedUptoRow.holds Tryz.pinned (OpenSpec.upto energyBoundedSpec)

/-- 'shoeboxlaw03.EnergyDecays', WHERE WHAT IT READS IS OF BULK AT MOST 1048576: true; the input reads as it did. -/
def energyDecaysUptoRow : OpenClaim := { program := "ytnjbkoobeobfiaagreat", sum := "cfff3e83d295155e16fe8c998b9a342982b6f1ac3795741f79f4df2420112584", func := "shoebox/shoeboxlaw03.EnergyDecays", spec := "energyDecays", inPlace := ["internal/abi.NoEscape", "internal/bytealg.MakeNoZero"], unfollowed := true, recurses := true, apart := false, narrowed := true }
def EnergyDecaysUptoSaid : Prop := energyDecaysUptoRow.holds Tryz.pinned (OpenSpec.upto energyDecaysSpec)

/-- 'shoeboxlaw03.EnergyReciprocals', WHERE WHAT IT READS IS OF BULK AT MOST 1048576: true; the input reads as it did. -/
def energyReciprocalsUptoRow : OpenClaim := { program := "ytnjbkoobeobfiaagreat", sum := "cfff3e83d295155e16fe8c998b9a342982b6f1ac3795741f79f4df2420112584", func := "shoebox/shoeboxlaw03.EnergyReciprocals", spec := "energyReciprocals", inPlace := ["internal/abi.NoEscape", "internal/bytealg.MakeNoZero"], unfollowed := true, recurses := true, apart := false, narrowed := true }
def EnergyReciprocalsUptoSaid : Prop := energyReciprocalsUptoRow.holds Tryz.pinned (OpenSpec.upto energyReciprocalsSpec)

end Rows
end Go.Proofs.YtnjbkoobeobfiaaGreat
