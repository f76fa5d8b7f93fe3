/-
  No cell of these rows narrows 'for every input' (looked for: loops, veiled, ifaces, maps, wideKeys, modest, calm, conditions, laid).
  DERIVED. THE GIVEN ROWS OF THIS SEAT. 12 by the template 'for every input the law returns true; each argument reads behind the call as it read before'; 0 by the template 'total and deterministic' (their statements: YtojekkfmnnoabaaTotals.lean).
  GIVEN WITH THE SEED: the statements are not yours to turn. If you find one false, say at which input.
  Laid BY PROGRAM, IN A SANDBOX (cutbox-rows.mjs): the forced cells as the released guide's own fill.sh prints them over the translation 4458ea29966c8f43… (all of the seat's roots in one cut). By AI agents, Wed Nov 11 2026. No macro, syntax, notation, axiom, sorry.
-/
import Derived.Test.YtojekkfmnnoabaaChecked
import GoSem.Claim
import GoSem.ClaimJoined
import GoSem.ClaimMapViews
import Derived.JoinedTies
import Derived.KernelRfl
namespace Go.Proofs.Ytojekkfmnnoabaa
/- THE CELL 'sum', in the pinned program and in every row, IS THE sha256 OF THE DUMP (.gsa) THAT YtojekkfmnnoabaaProg.lean LOADS. Nothing in Lean hashes anything: it is a label: what it is worth is what the hold of that sum in a sandbox is worth. -/
noncomputable def Try.pinned : Pinned := { name := "ytojekkfmnnoabaa", sum := "4458ea29966c8f43dae5496ee1faa54241efb0c25cf714d9d343c1cea9f33c1f", checked := Try.checked }
namespace Rows
def none {H : Type} : Left H := { results := [], args := [] }

/-- 'shoeboxlaw06.FilterChecks': WHATEVER THE INPUT: true; the input reads as it did. -/
def filterChecksSpec : ChangeSpec := { name := "filterChecks", fn := fun _ => fun
  | [d1, d2] => { results := [.lit (.bool true)], args := [d1, d2] }
  | _ => none }
def filterChecksRow : OpenClaim := { program := "ytojekkfmnnoabaa", sum := "4458ea29966c8f43dae5496ee1faa54241efb0c25cf714d9d343c1cea9f33c1f", func := "shoebox/shoeboxlaw06.FilterChecks", spec := "filterChecks", unfollowed := true, recurses := true, named := ["math/bits.divideError", "math/bits.overflowError"], plainKeys := false, apart := false }
def FilterChecksSaid : Prop := filterChecksRow.holds Try.pinned (OpenSpec.ofChange filterChecksSpec)

/-- ITS FALSE NEIGHBOUR: 'it returns false'. Refute it at one input. -/
def filterChecksWrong : ChangeSpec := { name := "filterChecks", fn := fun _ => fun
  | [d1, d2] => { results := [.lit (.bool false)], args := [d1, d2] }
  | _ => none }
def FilterChecksWrongFalsely : Prop := filterChecksRow.holds Try.pinned (OpenSpec.ofChange filterChecksWrong)

/-- 'shoeboxlaw06.FilterSchur': WHATEVER THE INPUT: true; the input reads as it did. -/
def filterSchurSpec : ChangeSpec := { name := "filterSchur", fn := fun _ => fun
  | [d] => { results := [.lit (.bool true)], args := [d] }
  | _ => none }
def filterSchurRow : OpenClaim := { program := "ytojekkfmnnoabaa", sum := "4458ea29966c8f43dae5496ee1faa54241efb0c25cf714d9d343c1cea9f33c1f", func := "shoebox/shoeboxlaw06.FilterSchur", spec := "filterSchur", unfollowed := true, recurses := true, named := ["math/bits.divideError", "math/bits.overflowError"], plainKeys := false, apart := false }
def FilterSchurSaid : Prop := filterSchurRow.holds Try.pinned (OpenSpec.ofChange filterSchurSpec)

/-- ITS FALSE NEIGHBOUR: 'it returns false'. Refute it at one input. -/
def filterSchurWrong : ChangeSpec := { name := "filterSchur", fn := fun _ => fun
  | [d] => { results := [.lit (.bool false)], args := [d] }
  | _ => none }
def FilterSchurWrongFalsely : Prop := filterSchurRow.holds Try.pinned (OpenSpec.ofChange filterSchurWrong)

/-- 'shoeboxlaw06.FilterFactors': WHATEVER THE INPUT: true; the input reads as it did. -/
def filterFactorsSpec : ChangeSpec := { name := "filterFactors", fn := fun _ => fun
  | [d1, d2] => { results := [.lit (.bool true)], args := [d1, d2] }
  | _ => none }
def filterFactorsRow : OpenClaim := { program := "ytojekkfmnnoabaa", sum := "4458ea29966c8f43dae5496ee1faa54241efb0c25cf714d9d343c1cea9f33c1f", func := "shoebox/shoeboxlaw06.FilterFactors", spec := "filterFactors", unfollowed := true, recurses := true, named := ["math/bits.divideError", "math/bits.overflowError"], plainKeys := false, apart := false }
def FilterFactorsSaid : Prop := filterFactorsRow.holds Try.pinned (OpenSpec.ofChange filterFactorsSpec)

/-- ITS FALSE NEIGHBOUR: 'it returns false'. Refute it at one input. -/
def filterFactorsWrong : ChangeSpec := { name := "filterFactors", fn := fun _ => fun
  | [d1, d2] => { results := [.lit (.bool false)], args := [d1, d2] }
  | _ => none }
def FilterFactorsWrongFalsely : Prop := filterFactorsRow.holds Try.pinned (OpenSpec.ofChange filterFactorsWrong)

/-- 'shoeboxlaw06.FilterQuantised': WHATEVER THE INPUT: true; the input reads as it did. -/
def filterQuantisedSpec : ChangeSpec := { name := "filterQuantised", fn := fun _ => fun
  | [d] => { results := [.lit (.bool true)], args := [d] }
  | _ => none }
def filterQuantisedRow : OpenClaim := { program := "ytojekkfmnnoabaa", sum := "4458ea29966c8f43dae5496ee1faa54241efb0c25cf714d9d343c1cea9f33c1f", func := "shoebox/shoeboxlaw06.FilterQuantised", spec := "filterQuantised", unfollowed := true, recurses := true, named := ["math/bits.divideError", "math/bits.overflowError"], plainKeys := false, apart := false }
def FilterQuantisedSaid : Prop := filterQuantisedRow.holds Try.pinned (OpenSpec.ofChange filterQuantisedSpec)

/-- ITS FALSE NEIGHBOUR: 'it returns false'. Refute it at one input. -/
def filterQuantisedWrong : ChangeSpec := { name := "filterQuantised", fn := fun _ => fun
  | [d] => { results := [.lit (.bool false)], args := [d] }
  | _ => none }
def FilterQuantisedWrongFalsely : Prop := filterQuantisedRow.holds Try.pinned (OpenSpec.ofChange filterQuantisedWrong)

/-- 'shoeboxlaw06.FilterStabilised': WHATEVER THE INPUT: true; the input reads as it did. -/
def filterStabilisedSpec : ChangeSpec := { name := "filterStabilised", fn := fun _ => fun
  | [d1, d2] => { results := [.lit (.bool true)], args := [d1, d2] }
  | _ => none }
def filterStabilisedRow : OpenClaim := { program := "ytojekkfmnnoabaa", sum := "4458ea29966c8f43dae5496ee1faa54241efb0c25cf714d9d343c1cea9f33c1f", func := "shoebox/shoeboxlaw06.FilterStabilised", spec := "filterStabilised", unfollowed := true, recurses := true, named := ["math/bits.divideError", "math/bits.overflowError"], plainKeys := false, apart := false }
def FilterStabilisedSaid : Prop := filterStabilisedRow.holds Try.pinned (OpenSpec.ofChange filterStabilisedSpec)

/-- ITS FALSE NEIGHBOUR: 'it returns false'. Refute it at one input. -/
def filterStabilisedWrong : ChangeSpec := { name := "filterStabilised", fn := fun _ => fun
  | [d1, d2] => { results := [.lit (.bool false)], args := [d1, d2] }
  | _ => none }
def FilterStabilisedWrongFalsely : Prop := filterStabilisedRow.holds Try.pinned (OpenSpec.ofChange filterStabilisedWrong)

/-- 'shoeboxlaw06.FilterBounds': WHATEVER THE INPUT: true; the input reads as it did. -/
def filterBoundsSpec : ChangeSpec := { name := "filterBounds", fn := fun _ => fun
  | [d1, d2, d3] => { results := [.lit (.bool true)], args := [d1, d2, d3] }
  | _ => none }
def filterBoundsRow : OpenClaim := { program := "ytojekkfmnnoabaa", sum := "4458ea29966c8f43dae5496ee1faa54241efb0c25cf714d9d343c1cea9f33c1f", func := "shoebox/shoeboxlaw06.FilterBounds", spec := "filterBounds", unfollowed := true, recurses := true, named := ["math/bits.divideError", "math/bits.overflowError"], plainKeys := false, apart := false }
def FilterBoundsSaid : Prop := filterBoundsRow.holds Try.pinned (OpenSpec.ofChange filterBoundsSpec)

/-- ITS FALSE NEIGHBOUR: 'it returns false'. Refute it at one input. -/
def filterBoundsWrong : ChangeSpec := { name := "filterBounds", fn := fun _ => fun
  | [d1, d2, d3] => { results := [.lit (.bool false)], args := [d1, d2, d3] }
  | _ => none }
def FilterBoundsWrongFalsely : Prop := filterBoundsRow.holds Try.pinned (OpenSpec.ofChange filterBoundsWrong)

/-- 'shoeboxlaw06.FilterLists': WHATEVER THE INPUT: true; the input reads as it did. -/
def filterListsSpec : ChangeSpec := { name := "filterLists", fn := fun _ => fun
  | [d1, d2, d3] => { results := [.lit (.bool true)], args := [d1, d2, d3] }
  | _ => none }
def filterListsRow : OpenClaim := { program := "ytojekkfmnnoabaa", sum := "4458ea29966c8f43dae5496ee1faa54241efb0c25cf714d9d343c1cea9f33c1f", func := "shoebox/shoeboxlaw06.FilterLists", spec := "filterLists", inPlace := ["math.archTrunc", "math.Float64bits", "math.Float64frombits", "math.Float32bits"], unfollowed := true, recurses := true, named := ["math/bits.divideError", "math/bits.overflowError"], plainKeys := false, apart := false }
def FilterListsSaid : Prop := filterListsRow.holds Try.pinned (OpenSpec.ofChange filterListsSpec)

/-- ITS FALSE NEIGHBOUR: 'it returns false'. Refute it at one input. -/
def filterListsWrong : ChangeSpec := { name := "filterLists", fn := fun _ => fun
  | [d1, d2, d3] => { results := [.lit (.bool false)], args := [d1, d2, d3] }
  | _ => none }
def FilterListsWrongFalsely : Prop := filterListsRow.holds Try.pinned (OpenSpec.ofChange filterListsWrong)

/-- 'shoeboxlaw06.FilterBlocks': WHATEVER THE INPUT: true; the input reads as it did. -/
def filterBlocksSpec : ChangeSpec := { name := "filterBlocks", fn := fun _ => fun
  | [d1, d2, d3] => { results := [.lit (.bool true)], args := [d1, d2, d3] }
  | _ => none }
def filterBlocksRow : OpenClaim := { program := "ytojekkfmnnoabaa", sum := "4458ea29966c8f43dae5496ee1faa54241efb0c25cf714d9d343c1cea9f33c1f", func := "shoebox/shoeboxlaw06.FilterBlocks", spec := "filterBlocks", inPlace := ["math.archTrunc", "math.Float64bits", "math.Float64frombits", "math.Float32bits"], unfollowed := true, recurses := true, named := ["math/bits.divideError", "math/bits.overflowError"], plainKeys := false, apart := false }
def FilterBlocksSaid : Prop := filterBlocksRow.holds Try.pinned (OpenSpec.ofChange filterBlocksSpec)

/-- ITS FALSE NEIGHBOUR: 'it returns false'. Refute it at one input. -/
def filterBlocksWrong : ChangeSpec := { name := "filterBlocks", fn := fun _ => fun
  | [d1, d2, d3] => { results := [.lit (.bool false)], args := [d1, d2, d3] }
  | _ => none }
def FilterBlocksWrongFalsely : Prop := filterBlocksRow.holds Try.pinned (OpenSpec.ofChange filterBlocksWrong)

/-- 'shoeboxlaw06.FilterBounded': WHATEVER THE INPUT: true; the input reads as it did. -/
def filterBoundedSpec : ChangeSpec := { name := "filterBounded", fn := fun _ => fun
  | [d1, d2, d3] => { results := [.lit (.bool true)], args := [d1, d2, d3] }
  | _ => none }
def filterBoundedRow : OpenClaim := { program := "ytojekkfmnnoabaa", sum := "4458ea29966c8f43dae5496ee1faa54241efb0c25cf714d9d343c1cea9f33c1f", func := "shoebox/shoeboxlaw06.FilterBounded", spec := "filterBounded", inPlace := ["math.archTrunc", "math.Float64bits", "math.Float64frombits"], unfollowed := true, recurses := true, named := ["math/bits.divideError", "math/bits.overflowError"], plainKeys := false, apart := false }
def FilterBoundedSaid : Prop := filterBoundedRow.holds Try.pinned (OpenSpec.ofChange filterBoundedSpec)

/-- ITS FALSE NEIGHBOUR: 'it returns false'. Refute it at one input. -/
def filterBoundedWrong : ChangeSpec := { name := "filterBounded", fn := fun _ => fun
  | [d1, d2, d3] => { results := [.lit (.bool false)], args := [d1, d2, d3] }
  | _ => none }
def FilterBoundedWrongFalsely : Prop := filterBoundedRow.holds Try.pinned (OpenSpec.ofChange filterBoundedWrong)

/-- 'shoeboxlaw06.FilterCycles': WHATEVER THE INPUT: true; the input reads as it did. -/
def filterCyclesSpec : ChangeSpec := { name := "filterCycles", fn := fun _ => fun
  | [d1, d2] => { results := [.lit (.bool true)], args := [d1, d2] }
  | _ => none }
def filterCyclesRow : OpenClaim := { program := "ytojekkfmnnoabaa", sum := "4458ea29966c8f43dae5496ee1faa54241efb0c25cf714d9d343c1cea9f33c1f", func := "shoebox/shoeboxlaw06.FilterCycles", spec := "filterCycles", unfollowed := true, recurses := true, named := ["math/bits.divideError", "math/bits.overflowError"], plainKeys := false, apart := false }
def FilterCyclesSaid : Prop := filterCyclesRow.holds Try.pinned (OpenSpec.ofChange filterCyclesSpec)

/-- ITS FALSE NEIGHBOUR: 'it returns false'. Refute it at one input. -/
def filterCyclesWrong : ChangeSpec := { name := "filterCycles", fn := fun _ => fun
  | [d1, d2] => { results := [.lit (.bool false)], args := [d1, d2] }
  | _ => none }
def FilterCyclesWrongFalsely : Prop := filterCyclesRow.holds Try.pinned (OpenSpec.ofChange filterCyclesWrong)

/-- 'shoeboxlaw06.FilterGains': WHATEVER THE INPUT: true; the input reads as it did. -/
def filterGainsSpec : ChangeSpec := { name := "filterGains", fn := fun _ => fun
  | [d1, d2, d3] => { results := [.lit (.bool true)], args := [d1, d2, d3] }
  | _ => none }
def filterGainsRow : OpenClaim := { program := "ytojekkfmnnoabaa", sum := "4458ea29966c8f43dae5496ee1faa54241efb0c25cf714d9d343c1cea9f33c1f", func := "shoebox/shoeboxlaw06.FilterGains", spec := "filterGains", unfollowed := true, recurses := true, named := ["math/bits.divideError", "math/bits.overflowError"], plainKeys := false, apart := false }
def FilterGainsSaid : Prop := filterGainsRow.holds Try.pinned (OpenSpec.ofChange filterGainsSpec)

/-- ITS FALSE NEIGHBOUR: 'it returns false'. Refute it at one input. -/
def filterGainsWrong : ChangeSpec := { name := "filterGains", fn := fun _ => fun
  | [d1, d2, d3] => { results := [.lit (.bool false)], args := [d1, d2, d3] }
  | _ => none }
def FilterGainsWrongFalsely : Prop := filterGainsRow.holds Try.pinned (OpenSpec.ofChange filterGainsWrong)

/-- 'shoeboxlaw06.FilterRanges': WHATEVER THE INPUT: true; the input reads as it did. -/
def filterRangesSpec : ChangeSpec := { name := "filterRanges", fn := fun _ => fun
  | [d1, d2] => { results := [.lit (.bool true)], args := [d1, d2] }
  | _ => none }
def filterRangesRow : OpenClaim := { program := "ytojekkfmnnoabaa", sum := "4458ea29966c8f43dae5496ee1faa54241efb0c25cf714d9d343c1cea9f33c1f", func := "shoebox/shoeboxlaw06.FilterRanges", spec := "filterRanges", unfollowed := true, recurses := true, named := ["math/bits.divideError", "math/bits.overflowError"], plainKeys := false, apart := false }
def FilterRangesSaid : Prop := filterRangesRow.holds Try.pinned (OpenSpec.ofChange filterRangesSpec)

/-- ITS FALSE NEIGHBOUR: 'it returns false'. Refute it at one input. -/
def filterRangesWrong : ChangeSpec := { name := "filterRanges", fn := fun _ => fun
  | [d1, d2] => { results := [.lit (.bool false)], args := [d1, d2] }
  | _ => none }
def FilterRangesWrongFalsely : Prop := filterRangesRow.holds Try.pinned (OpenSpec.ofChange filterRangesWrong)

/- THE SECOND FORM. 'bulk': how many values and letters a reading holds, each counted each time it is reached (what is shared counts as often as it is met; a slice's spare places count too). A statement '..UptoSaid' is the law's where the arguments, and the package variables that the reading takes, are together of bulk at most 1048576: NARROWER than '..Said'. Prove '..Said' where nothing that the law and all that it calls make is longer than what came in: it says more and counts as full. Else prove '..UptoSaid'. A law counts once. -/
mutual
def uptoBulk {H : Type} : DataW H → Nat
  | .lit (.string bytes) => bytes.length + 1
  | .lit _ => 1
  | .nil => 1
  | .ptr d => uptoBulk d + 1
  | .slice elems spare => uptoBulkAll elems + uptoBulkAll spare + 1
  | .agg parts => uptoBulkAll parts + 1
  | .iface _ d => uptoBulk d + 1
  | .map entries => uptoBulkEntries entries + 1
  | .held _ => 1
def uptoBulkAll {H : Type} : List (DataW H) → Nat
  | [] => 0
  | d :: r => uptoBulk d + uptoBulkAll r
def uptoBulkEntries {H : Type} : List (Lit × DataW H) → Nat
  | [] => 0
  | x :: r => uptoBulkEntry x + uptoBulkEntries r
def uptoBulkEntry {H : Type} : Lit × DataW H → Nat
  | (.string bytes, d) => bytes.length + uptoBulk d + 1
  | (_, d) => uptoBulk d + 1
 end
def uptoSmall : (H : Type) → List (DataW H) → Bool := fun _ ds => decide (uptoBulkAll ds ≤ 1048576)
def OpenSpec.upto (s : _root_.Go.ChangeSpec) : _root_.Go.OpenSpec := { _root_.Go.OpenSpec.ofChange s with cond := some uptoSmall }

/-- 'shoeboxlaw06.FilterChecks', WHERE WHAT IT READS IS OF BULK AT MOST 1048576: true; the input reads as it did. -/
def filterChecksUptoRow : OpenClaim := { program := "ytojekkfmnnoabaa", sum := "4458ea29966c8f43dae5496ee1faa54241efb0c25cf714d9d343c1cea9f33c1f", func := "shoebox/shoeboxlaw06.FilterChecks", spec := "filterChecks", unfollowed := true, recurses := true, named := ["math/bits.divideError", "math/bits.overflowError"], plainKeys := false, apart := false, narrowed := true }
def FilterChecksUptoSaid : Prop := filterChecksUptoRow.holds Try.pinned (OpenSpec.upto filterChecksSpec)

/-- 'shoeboxlaw06.FilterSchur', WHERE WHAT IT READS IS OF BULK AT MOST 1048576: true; the input reads as it did. -/
def filterSchurUptoRow : OpenClaim := { program := "ytojekkfmnnoabaa", sum := "4458ea29966c8f43dae5496ee1faa54241efb0c25cf714d9d343c1cea9f33c1f", func := "shoebox/shoeboxlaw06.FilterSchur", spec := "filterSchur", unfollowed := true, recurses := true, named := ["math/bits.divideError", "math/bits.overflowError"], plainKeys := false, apart := false, narrowed := true }
def FilterSchurUptoSaid : Prop := filterSchurUptoRow.holds Try.pinned (OpenSpec.upto filterSchurSpec)

/-- 'shoeboxlaw06.FilterFactors', WHERE WHAT IT READS IS OF BULK AT MOST 1048576: true; the input reads as it did. -/
def filterFactorsUptoRow : OpenClaim := { program := "ytojekkfmnnoabaa", sum := "4458ea29966c8f43dae5496ee1faa54241efb0c25cf714d9d343c1cea9f33c1f", func := "shoebox/shoeboxlaw06.FilterFactors", spec := "filterFactors", unfollowed := true, recurses := true, named := ["math/bits.divideError", "math/bits.overflowError"], plainKeys := false, apart := false, narrowed := true }
def FilterFactorsUptoSaid : Prop := filterFactorsUptoRow.holds Try.pinned (OpenSpec.upto filterFactorsSpec)

/-- 'shoeboxlaw06.FilterQuantised', WHERE WHAT IT READS IS OF BULK AT MOST 1048576: true; the input reads as it did. -/
def filterQuantisedUptoRow : OpenClaim := { program := "ytojekkfmnnoabaa", sum := "4458ea29966c8f43dae5496ee1faa54241efb0c25cf714d9d343c1cea9f33c1f", func := "shoebox/shoeboxlaw06.FilterQuantised", spec := "filterQuantised", unfollowed := true, recurses := true, named := ["math/bits.divideError", "math/bits.overflowError"], plainKeys := false, apart := false, narrowed := true }
def FilterQuantisedUptoSaid : Prop := filterQuantisedUptoRow.holds Try.pinned (OpenSpec.upto filterQuantisedSpec)

/-- 'shoeboxlaw06.FilterStabilised', WHERE WHAT IT READS IS OF BULK AT MOST 1048576: true; the input reads as it did. -/
def filterStabilisedUptoRow : OpenClaim := { program := "ytojekkfmnnoabaa", sum := "4458ea29966c8f43dae5496ee1faa54241efb0c25cf714d9d343c1cea9f33c1f", func := "shoebox/shoeboxlaw06.FilterStabilised", spec := "filterStabilised", unfollowed := true, recurses := true, named := ["math/bits.divideError", "math/bits.overflowError"], plainKeys := false, apart := false, narrowed := true }
def FilterStabilisedUptoSaid : Prop := filterStabilisedUptoRow.holds Try.pinned (OpenSpec.upto filterStabilisedSpec)

/-- 'shoeboxlaw06.FilterBounds', WHERE WHAT IT READS IS OF BULK AT MOST 1048576: true; the input reads as it did. -/
def filterBoundsUptoRow : OpenClaim := { program := "ytojekkfmnnoabaa", sum := "4458ea29966c8f43dae5496ee1faa54241efb0c25cf714d9d343c1cea9f33c1f", func := "shoebox/shoeboxlaw06.FilterBounds", spec := "filterBounds", unfollowed := true, recurses := true, named := ["math/bits.divideError", "math/bits.overflowError"], plainKeys := false, apart := false, narrowed := true }
def FilterBoundsUptoSaid : Prop := filterBoundsUptoRow.holds Try.pinned (OpenSpec.upto filterBoundsSpec)

/-- 'shoeboxlaw06.FilterLists', WHERE WHAT IT READS IS OF BULK AT MOST 1048576: true; the input reads as it did. -/
def filterListsUptoRow : OpenClaim := { program := "ytojekkfmnnoabaa", sum := "4458ea29966c8f43dae5496ee1faa54241efb0c25cf714d9d343c1cea9f33c1f", func := "shoebox/shoeboxlaw06.FilterLists", spec := "filterLists", inPlace := ["math.archTrunc", "math.Float64bits", "math.Float64frombits", "math.Float32bits"], unfollowed := true, recurses := true, named := ["math/bits.divideError", "math/bits.overflowError"], plainKeys := false, apart := false, narrowed := true }
def FilterListsUptoSaid : Prop := filterListsUptoRow.holds Try.pinned (OpenSpec.upto filterListsSpec)

/-- 'shoeboxlaw06.FilterBlocks', WHERE WHAT IT READS IS OF BULK AT MOST 1048576: true; the input reads as it did. -/
def filterBlocksUptoRow : OpenClaim := { program := "ytojekkfmnnoabaa", sum := "4458ea29966c8f43dae5496ee1faa54241efb0c25cf714d9d343c1cea9f33c1f", func := "shoebox/shoeboxlaw06.FilterBlocks", spec := "filterBlocks", inPlace := ["math.archTrunc", "math.Float64bits", "math.Float64frombits", "math.Float32bits"], unfollowed := true, recurses := true, named := ["math/bits.divideError", "math/bits.overflowError"], plainKeys := false, apart := false, narrowed := true }
def FilterBlocksUptoSaid : Prop := filterBlocksUptoRow.holds Try.pinned (OpenSpec.upto filterBlocksSpec)

/-- 'shoeboxlaw06.FilterBounded', WHERE WHAT IT READS IS OF BULK AT MOST 1048576: true; the input reads as it did. -/
def filterBoundedUptoRow : OpenClaim := { program := "ytojekkfmnnoabaa", sum := "4458ea29966c8f43dae5496ee1faa54241efb0c25cf714d9d343c1cea9f33c1f", func := "shoebox/shoeboxlaw06.FilterBounded", spec := "filterBounded", inPlace := ["math.archTrunc", "math.Float64bits", "math.Float64frombits"], unfollowed := true, recurses := true, named := ["math/bits.divideError", "math/bits.overflowError"], plainKeys := false, apart := false, narrowed := true }
def FilterBoundedUptoSaid : Prop := filterBoundedUptoRow.holds Try.pinned (OpenSpec.upto filterBoundedSpec)

/-- 'shoeboxlaw06.FilterCycles', WHERE WHAT IT READS IS OF BULK AT MOST 1048576: true; the input reads as it did. -/
def filterCyclesUptoRow : OpenClaim := { program := "ytojekkfmnnoabaa", sum := "4458ea29966c8f43dae5496ee1faa54241efb0c25cf714d9d343c1cea9f33c1f", func := "shoebox/shoeboxlaw06.FilterCycles", spec := "filterCycles", unfollowed := true, recurses := true, named := ["math/bits.divideError", "math/bits.overflowError"], plainKeys := false, apart := false, narrowed := true }
def FilterCyclesUptoSaid : Prop := filterCyclesUptoRow.holds Try.pinned (OpenSpec.upto filterCyclesSpec)

/-- 'shoeboxlaw06.FilterGains', WHERE WHAT IT READS IS OF BULK AT MOST 1048576: true; the input reads as it did. -/
def filterGainsUptoRow : OpenClaim := { program := "ytojekkfmnnoabaa", sum := "4458ea29966c8f43dae5496ee1faa54241efb0c25cf714d9d343c1cea9f33c1f", func := "shoebox/shoeboxlaw06.FilterGains", spec := "filterGains", unfollowed := true, recurses := true, named := ["math/bits.divideError", "math/bits.overflowError"], plainKeys := false, apart := false, narrowed := true }
def FilterGainsUptoSaid : Prop := filterGainsUptoRow.holds Try.pinned (OpenSpec.upto filterGainsSpec)

/-- 'shoeboxlaw06.FilterRanges', WHERE WHAT IT READS IS OF BULK AT MOST 1048576: true; the input reads as it did. -/
def filterRangesUptoRow : OpenClaim := { program := "ytojekkfmnnoabaa", sum := "4458ea29966c8f43dae5496ee1faa54241efb0c25cf714d9d343c1cea9f33c1f", func := "shoebox/shoeboxlaw06.FilterRanges", spec := "filterRanges", unfollowed := true, recurses := true, named := ["math/bits.divideError", "math/bits.overflowError"], plainKeys := false, apart := false, narrowed := true }
def FilterRangesUptoSaid : Prop := filterRangesUptoRow.holds Try.pinned (OpenSpec.upto filterRangesSpec)

end Rows
end Go.Proofs.Ytojekkfmnnoabaa
