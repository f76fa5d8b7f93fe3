/-
  No cell of these rows narrows 'for every input' (looked for: loops, veiled, ifaces, maps, wideKeys, modest, calm, conditions, laid).
  DERIVED. THE GIVEN ROWS OF THIS SEAT. 9 by the template 'for every input the law returns true; each argument reads behind the call as it read before'; 0 by the template 'total and deterministic' (their statements: YtpcjgdfcefidlaaTotals.lean).
  GIVEN WITH THE SEED: the statements are not yours to turn. If you find one false, say at which input.
  Laid BY PROGRAM, IN A SANDBOX (cutbox-rows.mjs): the forced cells as the released guide's own fill.sh prints them over the translation d3e6ac184a36dae4… (all of the seat's roots in one cut). By AI agents, Wed Nov 11 2026. No macro, syntax, notation, axiom, sorry.
-/
import Derived.Test.YtpcjgdfcefidlaaChecked
import GoSem.Claim
import GoSem.ClaimJoined
import GoSem.ClaimMapViews
import Derived.JoinedTies
import Derived.KernelRfl
namespace Go.Proofs.Ytpcjgdfcefidlaa
/- THE CELL 'sum', in the pinned program and in every row, IS THE sha256 OF THE DUMP (.gsa) THAT YtpcjgdfcefidlaaProg.lean LOADS. Nothing in Lean hashes anything: it is a label: what it is worth is what the hold of that sum in a sandbox is worth. -/
noncomputable def Try.pinned : Pinned := { name := "ytpcjgdfcefidlaa", sum := "d3e6ac184a36dae4f9a17d7f0410bbb92bd48f6931a72f1cf4b8f786e2b76a10", checked := Try.checked }
namespace Rows
def none {H : Type} : Left H := { results := [], args := [] }

/-- 'shoeboxlaw06.FilterFactors': WHATEVER THE INPUT: true; the input reads as it did. -/
def filterFactorsSpec : ChangeSpec := { name := "filterFactors", fn := fun _ => fun
  | [d1, d2] => { results := [.lit (.bool true)], args := [d1, d2] }
  | _ => none }
def filterFactorsRow : OpenClaim := { program := "ytpcjgdfcefidlaa", sum := "d3e6ac184a36dae4f9a17d7f0410bbb92bd48f6931a72f1cf4b8f786e2b76a10", func := "shoebox/shoeboxlaw06.FilterFactors", spec := "filterFactors", unfollowed := true, recurses := true, named := ["math/bits.divideError", "math/bits.overflowError"], plainKeys := false, apart := false }
def FilterFactorsSaid : Prop := filterFactorsRow.holds Try.pinned (OpenSpec.ofChange filterFactorsSpec)

/-- ITS FALSE NEIGHBOUR: 'it returns false'. Refute it at one input. -/
def filterFactorsWrong : ChangeSpec := { name := "filterFactors", fn := fun _ => fun
  | [d1, d2] => { results := [.lit (.bool false)], args := [d1, d2] }
  | _ => none }
def FilterFactorsWrongFalsely : Prop := filterFactorsRow.holds Try.pinned (OpenSpec.ofChange filterFactorsWrong)

/-- 'shoeboxlaw06.FilterRuns': WHATEVER THE INPUT: true; the input reads as it did. -/
def filterRunsSpec : ChangeSpec := { name := "filterRuns", fn := fun _ => fun
  | [d1, d2, d3] => { results := [.lit (.bool true)], args := [d1, d2, d3] }
  | _ => none }
def filterRunsRow : OpenClaim := { program := "ytpcjgdfcefidlaa", sum := "d3e6ac184a36dae4f9a17d7f0410bbb92bd48f6931a72f1cf4b8f786e2b76a10", func := "shoebox/shoeboxlaw06.FilterRuns", spec := "filterRuns", inPlace := ["math.archTrunc", "math.Float64bits", "math.Float64frombits", "math.Float32bits"], unfollowed := true, recurses := true, named := ["math/bits.divideError", "math/bits.overflowError"], plainKeys := false, apart := false }
def FilterRunsSaid : Prop := filterRunsRow.holds Try.pinned (OpenSpec.ofChange filterRunsSpec)

/-- ITS FALSE NEIGHBOUR: 'it returns false'. Refute it at one input. -/
def filterRunsWrong : ChangeSpec := { name := "filterRuns", fn := fun _ => fun
  | [d1, d2, d3] => { results := [.lit (.bool false)], args := [d1, d2, d3] }
  | _ => none }
def FilterRunsWrongFalsely : Prop := filterRunsRow.holds Try.pinned (OpenSpec.ofChange filterRunsWrong)

/-- 'shoeboxlaw06.FilterLists': WHATEVER THE INPUT: true; the input reads as it did. -/
def filterListsSpec : ChangeSpec := { name := "filterLists", fn := fun _ => fun
  | [d1, d2, d3] => { results := [.lit (.bool true)], args := [d1, d2, d3] }
  | _ => none }
def filterListsRow : OpenClaim := { program := "ytpcjgdfcefidlaa", sum := "d3e6ac184a36dae4f9a17d7f0410bbb92bd48f6931a72f1cf4b8f786e2b76a10", func := "shoebox/shoeboxlaw06.FilterLists", spec := "filterLists", inPlace := ["math.archTrunc", "math.Float64bits", "math.Float64frombits", "math.Float32bits"], unfollowed := true, recurses := true, named := ["math/bits.divideError", "math/bits.overflowError"], plainKeys := false, apart := false }
def FilterListsSaid : Prop := filterListsRow.holds Try.pinned (OpenSpec.ofChange filterListsSpec)

/-- ITS FALSE NEIGHBOUR: 'it returns false'. Refute it at one input. -/
def filterListsWrong : ChangeSpec := { name := "filterLists", fn := fun _ => fun
  | [d1, d2, d3] => { results := [.lit (.bool false)], args := [d1, d2, d3] }
  | _ => none }
def FilterListsWrongFalsely : Prop := filterListsRow.holds Try.pinned (OpenSpec.ofChange filterListsWrong)

/-- 'shoeboxlaw06.FilterBlocks': WHATEVER THE INPUT: true; the input reads as it did. -/
def filterBlocksSpec : ChangeSpec := { name := "filterBlocks", fn := fun _ => fun
  | [d1, d2, d3] => { results := [.lit (.bool true)], args := [d1, d2, d3] }
  | _ => none }
def filterBlocksRow : OpenClaim := { program := "ytpcjgdfcefidlaa", sum := "d3e6ac184a36dae4f9a17d7f0410bbb92bd48f6931a72f1cf4b8f786e2b76a10", func := "shoebox/shoeboxlaw06.FilterBlocks", spec := "filterBlocks", inPlace := ["math.archTrunc", "math.Float64bits", "math.Float64frombits", "math.Float32bits"], unfollowed := true, recurses := true, named := ["math/bits.divideError", "math/bits.overflowError"], plainKeys := false, apart := false }
def FilterBlocksSaid : Prop := filterBlocksRow.holds Try.pinned (OpenSpec.ofChange filterBlocksSpec)

/-- ITS FALSE NEIGHBOUR: 'it returns false'. Refute it at one input. -/
def filterBlocksWrong : ChangeSpec := { name := "filterBlocks", fn := fun _ => fun
  | [d1, d2, d3] => { results := [.lit (.bool false)], args := [d1, d2, d3] }
  | _ => none }
def FilterBlocksWrongFalsely : Prop := filterBlocksRow.holds Try.pinned (OpenSpec.ofChange filterBlocksWrong)

/-- 'shoeboxlaw06.FilterBounded': WHATEVER THE INPUT: true; the input reads as it did. -/
def filterBoundedSpec : ChangeSpec := { name := "filterBounded", fn := fun _ => fun
  | [d1, d2, d3] => { results := [.lit (.bool true)], args := [d1, d2, d3] }
  | _ => none }
def filterBoundedRow : OpenClaim := { program := "ytpcjgdfcefidlaa", sum := "d3e6ac184a36dae4f9a17d7f0410bbb92bd48f6931a72f1cf4b8f786e2b76a10", func := "shoebox/shoeboxlaw06.FilterBounded", spec := "filterBounded", inPlace := ["math.archTrunc", "math.Float64bits", "math.Float64frombits"], unfollowed := true, recurses := true, named := ["math/bits.divideError", "math/bits.overflowError"], plainKeys := false, apart := false }
def FilterBoundedSaid : Prop := filterBoundedRow.holds Try.pinned (OpenSpec.ofChange filterBoundedSpec)

/-- ITS FALSE NEIGHBOUR: 'it returns false'. Refute it at one input. -/
def filterBoundedWrong : ChangeSpec := { name := "filterBounded", fn := fun _ => fun
  | [d1, d2, d3] => { results := [.lit (.bool false)], args := [d1, d2, d3] }
  | _ => none }
def FilterBoundedWrongFalsely : Prop := filterBoundedRow.holds Try.pinned (OpenSpec.ofChange filterBoundedWrong)

/-- 'shoeboxlaw06.FilterCycles': WHATEVER THE INPUT: true; the input reads as it did. -/
def filterCyclesSpec : ChangeSpec := { name := "filterCycles", fn := fun _ => fun
  | [d1, d2] => { results := [.lit (.bool true)], args := [d1, d2] }
  | _ => none }
def filterCyclesRow : OpenClaim := { program := "ytpcjgdfcefidlaa", sum := "d3e6ac184a36dae4f9a17d7f0410bbb92bd48f6931a72f1cf4b8f786e2b76a10", func := "shoebox/shoeboxlaw06.FilterCycles", spec := "filterCycles", unfollowed := true, recurses := true, named := ["math/bits.divideError", "math/bits.overflowError"], plainKeys := false, apart := false }
def FilterCyclesSaid : Prop := filterCyclesRow.holds Try.pinned (OpenSpec.ofChange filterCyclesSpec)

/-- ITS FALSE NEIGHBOUR: 'it returns false'. Refute it at one input. -/
def filterCyclesWrong : ChangeSpec := { name := "filterCycles", fn := fun _ => fun
  | [d1, d2] => { results := [.lit (.bool false)], args := [d1, d2] }
  | _ => none }
def FilterCyclesWrongFalsely : Prop := filterCyclesRow.holds Try.pinned (OpenSpec.ofChange filterCyclesWrong)

/-- 'shoeboxtop.TopAlignedLouder': WHATEVER THE INPUT: true; the input reads as it did. -/
def topAlignedLouderSpec : ChangeSpec := { name := "topAlignedLouder", fn := fun _ => fun
  | [d1, d2, d3] => { results := [.lit (.bool true)], args := [d1, d2, d3] }
  | _ => none }
def topAlignedLouderRow : OpenClaim := { program := "ytpcjgdfcefidlaa", sum := "d3e6ac184a36dae4f9a17d7f0410bbb92bd48f6931a72f1cf4b8f786e2b76a10", func := "shoebox/shoeboxtop.TopAlignedLouder", spec := "topAlignedLouder", inPlace := ["math.Float64bits"], unfollowed := true, recurses := true, plainKeys := false, apart := false }
def TopAlignedLouderSaid : Prop := topAlignedLouderRow.holds Try.pinned (OpenSpec.ofChange topAlignedLouderSpec)

/-- ITS FALSE NEIGHBOUR: 'it returns false'. Refute it at one input. -/
def topAlignedLouderWrong : ChangeSpec := { name := "topAlignedLouder", fn := fun _ => fun
  | [d1, d2, d3] => { results := [.lit (.bool false)], args := [d1, d2, d3] }
  | _ => none }
def TopAlignedLouderWrongFalsely : Prop := topAlignedLouderRow.holds Try.pinned (OpenSpec.ofChange topAlignedLouderWrong)

/-- 'shoeboxtop.TopTwoUnfoldings': WHATEVER THE INPUT: true; the input reads as it did. -/
def topTwoUnfoldingsSpec : ChangeSpec := { name := "topTwoUnfoldings", fn := fun _ => fun
  | [d1, d2, d3] => { results := [.lit (.bool true)], args := [d1, d2, d3] }
  | _ => none }
def topTwoUnfoldingsRow : OpenClaim := { program := "ytpcjgdfcefidlaa", sum := "d3e6ac184a36dae4f9a17d7f0410bbb92bd48f6931a72f1cf4b8f786e2b76a10", func := "shoebox/shoeboxtop.TopTwoUnfoldings", spec := "topTwoUnfoldings", inPlace := ["math.archTrunc", "math.Float64bits", "math.Float64frombits"], unfollowed := true, recurses := true, plainKeys := false, apart := false }
def TopTwoUnfoldingsSaid : Prop := topTwoUnfoldingsRow.holds Try.pinned (OpenSpec.ofChange topTwoUnfoldingsSpec)

/-- ITS FALSE NEIGHBOUR: 'it returns false'. Refute it at one input. -/
def topTwoUnfoldingsWrong : ChangeSpec := { name := "topTwoUnfoldings", fn := fun _ => fun
  | [d1, d2, d3] => { results := [.lit (.bool false)], args := [d1, d2, d3] }
  | _ => none }
def TopTwoUnfoldingsWrongFalsely : Prop := topTwoUnfoldingsRow.holds Try.pinned (OpenSpec.ofChange topTwoUnfoldingsWrong)

/-- 'shoeboxtop.TopSweepAndSequence': WHATEVER THE INPUT: true; the input reads as it did. -/
def topSweepAndSequenceSpec : ChangeSpec := { name := "topSweepAndSequence", fn := fun _ => fun
  | [d1, d2, d3] => { results := [.lit (.bool true)], args := [d1, d2, d3] }
  | _ => none }
def topSweepAndSequenceRow : OpenClaim := { program := "ytpcjgdfcefidlaa", sum := "d3e6ac184a36dae4f9a17d7f0410bbb92bd48f6931a72f1cf4b8f786e2b76a10", func := "shoebox/shoeboxtop.TopSweepAndSequence", spec := "topSweepAndSequence", inPlace := ["math.archTrunc", "math.Float64bits", "math.Float64frombits"], unfollowed := true, recurses := true, plainKeys := false, apart := false }
def TopSweepAndSequenceSaid : Prop := topSweepAndSequenceRow.holds Try.pinned (OpenSpec.ofChange topSweepAndSequenceSpec)

/-- ITS FALSE NEIGHBOUR: 'it returns false'. Refute it at one input. -/
def topSweepAndSequenceWrong : ChangeSpec := { name := "topSweepAndSequence", fn := fun _ => fun
  | [d1, d2, d3] => { results := [.lit (.bool false)], args := [d1, d2, d3] }
  | _ => none }
def TopSweepAndSequenceWrongFalsely : Prop := topSweepAndSequenceRow.holds Try.pinned (OpenSpec.ofChange topSweepAndSequenceWrong)

/- THE SECOND FORM. 'bulk': how many values and letters a reading holds, each counted each time it is reached (what is shared counts as often as it is met; a slice's spare places count too). A statement '..UptoSaid' is the law's where the arguments, and the package variables that the reading takes, are together of bulk at most 1048576: NARROWER than '..Said'. Prove '..Said' where nothing that the law and all that it calls make is longer than what came in: it says more and counts as full. Else prove '..UptoSaid'. A law counts once. -/
mutual
def uptoBulk {H : Type} : DataW H → Nat
  | .lit (.string bytes) => bytes.length + 1
  | .lit _ => 1
  | .nil => 1
  | .ptr d => uptoBulk d + 1
  | .slice elems spare => uptoBulkAll elems + uptoBulkAll spare + 1
  | .agg parts => uptoBulkAll parts + 1
  | .iface _ d => uptoBulk d + 1
  | .map entries => uptoBulkEntries entries + 1
  | .held _ => 1
def uptoBulkAll {H : Type} : List (DataW H) → Nat
  | [] => 0
  | d :: r => uptoBulk d + uptoBulkAll r
def uptoBulkEntries {H : Type} : List (Lit × DataW H) → Nat
  | [] => 0
  | x :: r => uptoBulkEntry x + uptoBulkEntries r
def uptoBulkEntry {H : Type} : Lit × DataW H → Nat
  | (.string bytes, d) => bytes.length + uptoBulk d + 1
  | (_, d) => uptoBulk d + 1
 end
def uptoSmall : (H : Type) → List (DataW H) → Bool := fun _ ds => decide (uptoBulkAll ds ≤ 1048576)
def OpenSpec.upto (s : _root_.Go.ChangeSpec) : _root_.Go.OpenSpec := { _root_.Go.OpenSpec.ofChange s with cond := some uptoSmall }

/-- 'shoeboxlaw06.FilterFactors', WHERE WHAT IT READS IS OF BULK AT MOST 1048576: true; the input reads as it did. -/
def filterFactorsUptoRow : OpenClaim := { program := "ytpcjgdfcefidlaa", sum := "d3e6ac184a36dae4f9a17d7f0410bbb92bd48f6931a72f1cf4b8f786e2b76a10", func := "shoebox/shoeboxlaw06.FilterFactors", spec := "filterFactors", unfollowed := true, recurses := true, named := ["math/bits.divideError", "math/bits.overflowError"], plainKeys := false, apart := false, narrowed := true }
def FilterFactorsUptoSaid : Prop := filterFactorsUptoRow.holds Try.pinned (OpenSpec.upto filterFactorsSpec)

/-- 'shoeboxlaw06.FilterRuns', WHERE WHAT IT READS IS OF BULK AT MOST 1048576: true; the input reads as it did. -/
def filterRunsUptoRow : OpenClaim := { program := "ytpcjgdfcefidlaa", sum := "d3e6ac184a36dae4f9a17d7f0410bbb92bd48f6931a72f1cf4b8f786e2b76a10", func := "shoebox/shoeboxlaw06.FilterRuns", spec := "filterRuns", inPlace := ["math.archTrunc", "math.Float64bits", "math.Float64frombits", "math.Float32bits"], unfollowed := true, recurses := true, named := ["math/bits.divideError", "math/bits.overflowError"], plainKeys := false, apart := false, narrowed := true }
def FilterRunsUptoSaid : Prop := filterRunsUptoRow.holds Try.pinned (OpenSpec.upto filterRunsSpec)

/-- 'shoeboxlaw06.FilterLists', WHERE WHAT IT READS IS OF BULK AT MOST 1048576: true; the input reads as it did. -/
def filterListsUptoRow : OpenClaim := { program := "ytpcjgdfcefidlaa", sum := "d3e6ac184a36dae4f9a17d7f0410bbb92bd48f6931a72f1cf4b8f786e2b76a10", func := "shoebox/shoeboxlaw06.FilterLists", spec := "filterLists", inPlace := ["math.archTrunc", "math.Float64bits", "math.Float64frombits", "math.Float32bits"], unfollowed := true, recurses := true, named := ["math/bits.divideError", "math/bits.overflowError"], plainKeys := false, apart := false, narrowed := true }
def FilterListsUptoSaid : Prop := filterListsUptoRow.holds Try.pinned (OpenSpec.upto filterListsSpec)

/-- 'shoeboxlaw06.FilterBlocks', WHERE WHAT IT READS IS OF BULK AT MOST 1048576: true; the input reads as it did. -/
def filterBlocksUptoRow : OpenClaim := { program := "ytpcjgdfcefidlaa", sum := "d3e6ac184a36dae4f9a17d7f0410bbb92bd48f6931a72f1cf4b8f786e2b76a10", func := "shoebox/shoeboxlaw06.FilterBlocks", spec := "filterBlocks", inPlace := ["math.archTrunc", "math.Float64bits", "math.Float64frombits", "math.Float32bits"], unfollowed := true, recurses := true, named := ["math/bits.divideError", "math/bits.overflowError"], plainKeys := false, apart := false, narrowed := true }
def FilterBlocksUptoSaid : Prop := filterBlocksUptoRow.holds Try.pinned (OpenSpec.upto filterBlocksSpec)

/-- 'shoeboxlaw06.FilterBounded', WHERE WHAT IT READS IS OF BULK AT MOST 1048576: true; the input reads as it did. -/
def filterBoundedUptoRow : OpenClaim := { program := "ytpcjgdfcefidlaa", sum := "d3e6ac184a36dae4f9a17d7f0410bbb92bd48f6931a72f1cf4b8f786e2b76a10", func := "shoebox/shoeboxlaw06.FilterBounded", spec := "filterBounded", inPlace := ["math.archTrunc", "math.Float64bits", "math.Float64frombits"], unfollowed := true, recurses := true, named := ["math/bits.divideError", "math/bits.overflowError"], plainKeys := false, apart := false, narrowed := true }
def FilterBoundedUptoSaid : Prop := filterBoundedUptoRow.holds Try.pinned (OpenSpec.upto filterBoundedSpec)

/-- 'shoeboxlaw06.FilterCycles', WHERE WHAT IT READS IS OF BULK AT MOST 1048576: true; the input reads as it did. -/
def filterCyclesUptoRow : OpenClaim := { program := "ytpcjgdfcefidlaa", sum := "d3e6ac184a36dae4f9a17d7f0410bbb92bd48f6931a72f1cf4b8f786e2b76a10", func := "shoebox/shoeboxlaw06.FilterCycles", spec := "filterCycles", unfollowed := true, recurses := true, named := ["math/bits.divideError", "math/bits.overflowError"], plainKeys := false, apart := false, narrowed := true }
def FilterCyclesUptoSaid : Prop := filterCyclesUptoRow.holds Try.pinned (OpenSpec.upto filterCyclesSpec)

/-- 'shoeboxtop.TopAlignedLouder', WHERE WHAT IT READS IS OF BULK AT MOST 1048576: true; the input reads as it did. -/
def topAlignedLouderUptoRow : OpenClaim := { program := "ytpcjgdfcefidlaa", sum := "d3e6ac184a36dae4f9a17d7f0410bbb92bd48f6931a72f1cf4b8f786e2b76a10", func := "shoebox/shoeboxtop.TopAlignedLouder", spec := "topAlignedLouder", inPlace := ["math.Float64bits"], unfollowed := true, recurses := true, plainKeys := false, apart := false, narrowed := true }
def TopAlignedLouderUptoSaid : Prop := topAlignedLouderUptoRow.holds Try.pinned (OpenSpec.upto topAlignedLouderSpec)

/-- 'shoeboxtop.TopTwoUnfoldings', WHERE WHAT IT READS IS OF BULK AT MOST 1048576: true; the input reads as it did. -/
def topTwoUnfoldingsUptoRow : OpenClaim := { program := "ytpcjgdfcefidlaa", sum := "d3e6ac184a36dae4f9a17d7f0410bbb92bd48f6931a72f1cf4b8f786e2b76a10", func := "shoebox/shoeboxtop.TopTwoUnfoldings", spec := "topTwoUnfoldings", inPlace := ["math.archTrunc", "math.Float64bits", "math.Float64frombits"], unfollowed := true, recurses := true, plainKeys := false, apart := false, narrowed := true }
def TopTwoUnfoldingsUptoSaid : Prop := topTwoUnfoldingsUptoRow.holds Try.pinned (OpenSpec.upto topTwoUnfoldingsSpec)

/-- 'shoeboxtop.TopSweepAndSequence', WHERE WHAT IT READS IS OF BULK AT MOST 1048576: true; the input reads as it did. -/
def topSweepAndSequenceUptoRow : OpenClaim := { program := "ytpcjgdfcefidlaa", sum := "d3e6ac184a36dae4f9a17d7f0410bbb92bd48f6931a72f1cf4b8f786e2b76a10", func := "shoebox/shoeboxtop.TopSweepAndSequence", spec := "topSweepAndSequence", inPlace := ["math.archTrunc", "math.Float64bits", "math.Float64frombits"], unfollowed := true, recurses := true, plainKeys := false, apart := false, narrowed := true }
def TopSweepAndSequenceUptoSaid : Prop := topSweepAndSequenceUptoRow.holds Try.pinned (OpenSpec.upto topSweepAndSequenceSpec)

end Rows
end Go.Proofs.Ytpcjgdfcefidlaa
