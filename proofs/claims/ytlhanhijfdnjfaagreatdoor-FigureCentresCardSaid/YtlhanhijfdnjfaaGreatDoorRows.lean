/-
  NARROWER THAN 'FOR EVERY INPUT', by the rows' own cells (each row's printed sentence says how): FigureResponses: laid · FigureEnergies: laid · FigureSums: laid · FigureDrops: laid · FigureDecays: laid · FigureDefinitions: laid · FigureLateral: laid · FigureCentres: laid.
  DERIVED. THE GIVEN ROWS OF THIS SEAT. 8 by the template 'for every input the law returns true; each argument reads behind the call as it read before'; 0 by the template 'total and deterministic' (their statements: YtlhanhijfdnjfaaGreatDoorTotals.lean).
  GIVEN WITH THE SEED: the statements are not yours to turn. If you find one false, say at which input.
  Laid BY PROGRAM, IN A SANDBOX (cutbox-rows.mjs): the forced cells as the released guide's own fill.sh prints them over the translation ab20c359711c4f4d… (all of the seat's roots in one cut). By AI agents, Wed Nov 11 2026. No macro, syntax, notation, axiom, sorry.
-/
import Derived.Test.YtlhanhijfdnjfaaGreatDoorChecked
import GoSem.Claim
import GoSem.ClaimJoined
import GoSem.ClaimMapViews
import Derived.JoinedTies
import Derived.KernelRfl
namespace Go.Proofs.YtlhanhijfdnjfaaGreatDoor
/- THE CELL 'sum', in the pinned program and in every row, IS THE sha256 OF THE DUMP (.gsa) THAT YtlhanhijfdnjfaaGreatDoorProg.lean LOADS. Nothing in Lean hashes anything: it is a label: what it is worth is what the hold of that sum in a sandbox is worth. -/
noncomputable def Tryz.pinned : Pinned := { name := "ytlhanhijfdnjfaagreatdoor", sum := "ab20c359711c4f4dbeea3087cf938652332d88aeea53276dc2f102a8da8b3b28", checked := Tryz.checked }
namespace Rows
def none {H : Type} : Left H := { results := [], args := [] }

/- WHAT THE LISTED PACKAGE-LEVEL VARIABLES READ AS WHEN THE CALL BEGINS. Each datum BY PROGRAM (the guide's laid-datum.mjs) off the statement by which the dump's own 'gosem.cut.vars' lays the variable. In a bare row this is a premise. The card (YtlhanhijfdnjfaaGreatDoorCards.lean) ties it to the program's text. -/
def laid_math_bits_deBruijn32tab {H : Type} : DataW H := .agg [.lit (.int .u8 0), .lit (.int .u8 1), .lit (.int .u8 28), .lit (.int .u8 2), .lit (.int .u8 29), .lit (.int .u8 14), .lit (.int .u8 24), .lit (.int .u8 3), .lit (.int .u8 30), .lit (.int .u8 22), .lit (.int .u8 20), .lit (.int .u8 15), .lit (.int .u8 25), .lit (.int .u8 17), .lit (.int .u8 4), .lit (.int .u8 8), .lit (.int .u8 31), .lit (.int .u8 27), .lit (.int .u8 13), .lit (.int .u8 23), .lit (.int .u8 21), .lit (.int .u8 19), .lit (.int .u8 16), .lit (.int .u8 7), .lit (.int .u8 26), .lit (.int .u8 12), .lit (.int .u8 18), .lit (.int .u8 6), .lit (.int .u8 11), .lit (.int .u8 5), .lit (.int .u8 10), .lit (.int .u8 9)]
def laid_math_bits_deBruijn64tab {H : Type} : DataW H := .agg [.lit (.int .u8 0), .lit (.int .u8 1), .lit (.int .u8 56), .lit (.int .u8 2), .lit (.int .u8 57), .lit (.int .u8 49), .lit (.int .u8 28), .lit (.int .u8 3), .lit (.int .u8 61), .lit (.int .u8 58), .lit (.int .u8 42), .lit (.int .u8 50), .lit (.int .u8 38), .lit (.int .u8 29), .lit (.int .u8 17), .lit (.int .u8 4), .lit (.int .u8 62), .lit (.int .u8 47), .lit (.int .u8 59), .lit (.int .u8 36), .lit (.int .u8 45), .lit (.int .u8 43), .lit (.int .u8 51), .lit (.int .u8 22), .lit (.int .u8 53), .lit (.int .u8 39), .lit (.int .u8 33), .lit (.int .u8 30), .lit (.int .u8 24), .lit (.int .u8 18), .lit (.int .u8 12), .lit (.int .u8 5), .lit (.int .u8 63), .lit (.int .u8 55), .lit (.int .u8 48), .lit (.int .u8 27), .lit (.int .u8 60), .lit (.int .u8 41), .lit (.int .u8 37), .lit (.int .u8 16), .lit (.int .u8 46), .lit (.int .u8 35), .lit (.int .u8 44), .lit (.int .u8 21), .lit (.int .u8 52), .lit (.int .u8 32), .lit (.int .u8 23), .lit (.int .u8 11), .lit (.int .u8 54), .lit (.int .u8 26), .lit (.int .u8 40), .lit (.int .u8 15), .lit (.int .u8 34), .lit (.int .u8 20), .lit (.int .u8 31), .lit (.int .u8 10), .lit (.int .u8 25), .lit (.int .u8 14), .lit (.int .u8 19), .lit (.int .u8 9), .lit (.int .u8 13), .lit (.int .u8 8), .lit (.int .u8 7), .lit (.int .u8 6)]
def laid_internal_strconv_uint64pow10 {H : Type} : DataW H := .agg [.lit (.int .u64 1), .lit (.int .u64 10), .lit (.int .u64 100), .lit (.int .u64 1000), .lit (.int .u64 10000), .lit (.int .u64 100000), .lit (.int .u64 1000000), .lit (.int .u64 10000000), .lit (.int .u64 100000000), .lit (.int .u64 1000000000), .lit (.int .u64 10000000000), .lit (.int .u64 100000000000), .lit (.int .u64 1000000000000), .lit (.int .u64 10000000000000), .lit (.int .u64 100000000000000), .lit (.int .u64 1000000000000000), .lit (.int .u64 10000000000000000), .lit (.int .u64 100000000000000000), .lit (.int .u64 1000000000000000000), .lit (.int .u64 10000000000000000000)]
def laid_shoebox_figure_slopes {H : Type} : DataW H := .agg [.agg [.lit (.int .i64 0), .lit (.int .i64 2), .lit (.int .i64 6)], .agg [.lit (.int .i64 1), .lit (.int .i64 5), .lit (.int .i64 3)], .agg [.lit (.int .i64 1), .lit (.int .i64 7), .lit (.int .i64 2)]]
def laid_shoebox_figure_tenths {H : Type} : DataW H := .agg [.lit (.int .i64 1000000000), .lit (.int .i64 1258925411), .lit (.int .i64 1584893192), .lit (.int .i64 1995262314), .lit (.int .i64 2511886431), .lit (.int .i64 3162277660), .lit (.int .i64 3981071705), .lit (.int .i64 5011872336), .lit (.int .i64 6309573444), .lit (.int .i64 7943282347)]
def laid_shoebox_figure_turns {H : Type} : DataW H := .agg [.agg [.lit (.int .i64 1), .lit (.int .i64 0)], .agg [.lit (.int .i64 0), .lit (.int .i64 (-1))], .agg [.lit (.int .i64 (-1)), .lit (.int .i64 0)], .agg [.lit (.int .i64 0), .lit (.int .i64 1)]]

/-- 'shoeboxlaw05.FigureResponses': WHATEVER THE INPUT: true; the input reads as it did. -/
def figureResponsesSpec : ChangeSpec := { name := "figureResponses", fn := fun _ => fun
  | [d1, d2, d3] => { results := [.lit (.bool true)], args := [d1, d2, d3] }
  | _ => none }
def figureResponsesRow : OpenClaim := { program := "ytlhanhijfdnjfaagreatdoor", sum := "ab20c359711c4f4dbeea3087cf938652332d88aeea53276dc2f102a8da8b3b28", func := "shoebox/shoeboxlaw05.FigureResponses", spec := "figureResponses", inPlace := ["math.archTrunc", "math.Float64bits", "math.Float64frombits", "internal/abi.NoEscape", "internal/bytealg.MakeNoZero"], unfollowed := true, recurses := true, named := ["shoebox/figure.slopes", "shoebox/figure.tenths", "shoebox/figure.turns", "math/bits.divideError", "math/bits.overflowError", "internal/strconv.uint64pow10", "math/bits.deBruijn32tab", "math/bits.deBruijn64tab"], apart := false, laid := [("math/bits.deBruijn32tab", laid_math_bits_deBruijn32tab), ("math/bits.deBruijn64tab", laid_math_bits_deBruijn64tab), ("internal/strconv.uint64pow10", laid_internal_strconv_uint64pow10), ("shoebox/figure.slopes", laid_shoebox_figure_slopes), ("shoebox/figure.tenths", laid_shoebox_figure_tenths), ("shoebox/figure.turns", laid_shoebox_figure_turns)] }
def FigureResponsesSaid : Prop := figureResponsesRow.holds Tryz.pinned (OpenSpec.ofChange figureResponsesSpec)

/-- ITS FALSE NEIGHBOUR: 'it returns false'. Refute it at one input. -/
def figureResponsesWrong : ChangeSpec := { name := "figureResponses", fn := fun _ => fun
  | [d1, d2, d3] => { results := [.lit (.bool false)], args := [d1, d2, d3] }
  | _ => none }
def FigureResponsesWrongFalsely : Prop := figureResponsesRow.holds Tryz.pinned (OpenSpec.ofChange figureResponsesWrong)

/-- 'shoeboxlaw05.FigureEnergies': WHATEVER THE INPUT: true; the input reads as it did. -/
def figureEnergiesSpec : ChangeSpec := { name := "figureEnergies", fn := fun _ => fun
  | [d1, d2] => { results := [.lit (.bool true)], args := [d1, d2] }
  | _ => none }
def figureEnergiesRow : OpenClaim := { program := "ytlhanhijfdnjfaagreatdoor", sum := "ab20c359711c4f4dbeea3087cf938652332d88aeea53276dc2f102a8da8b3b28", func := "shoebox/shoeboxlaw05.FigureEnergies", spec := "figureEnergies", inPlace := ["math.archTrunc", "math.Float64bits", "math.Float64frombits", "internal/abi.NoEscape", "internal/bytealg.MakeNoZero"], unfollowed := true, recurses := true, named := ["shoebox/figure.slopes", "shoebox/figure.tenths", "shoebox/figure.turns", "math/bits.divideError", "math/bits.overflowError", "internal/strconv.uint64pow10", "math/bits.deBruijn32tab", "math/bits.deBruijn64tab"], apart := false, laid := [("math/bits.deBruijn32tab", laid_math_bits_deBruijn32tab), ("math/bits.deBruijn64tab", laid_math_bits_deBruijn64tab), ("internal/strconv.uint64pow10", laid_internal_strconv_uint64pow10), ("shoebox/figure.slopes", laid_shoebox_figure_slopes), ("shoebox/figure.tenths", laid_shoebox_figure_tenths), ("shoebox/figure.turns", laid_shoebox_figure_turns)] }
def FigureEnergiesSaid : Prop := figureEnergiesRow.holds Tryz.pinned (OpenSpec.ofChange figureEnergiesSpec)

/-- ITS FALSE NEIGHBOUR: 'it returns false'. Refute it at one input. -/
def figureEnergiesWrong : ChangeSpec := { name := "figureEnergies", fn := fun _ => fun
  | [d1, d2] => { results := [.lit (.bool false)], args := [d1, d2] }
  | _ => none }
def FigureEnergiesWrongFalsely : Prop := figureEnergiesRow.holds Tryz.pinned (OpenSpec.ofChange figureEnergiesWrong)

/-- 'shoeboxlaw05.FigureSums': WHATEVER THE INPUT: true; the input reads as it did. -/
def figureSumsSpec : ChangeSpec := { name := "figureSums", fn := fun _ => fun
  | [d] => { results := [.lit (.bool true)], args := [d] }
  | _ => none }
def figureSumsRow : OpenClaim := { program := "ytlhanhijfdnjfaagreatdoor", sum := "ab20c359711c4f4dbeea3087cf938652332d88aeea53276dc2f102a8da8b3b28", func := "shoebox/shoeboxlaw05.FigureSums", spec := "figureSums", inPlace := ["math.archTrunc", "math.Float64bits", "math.Float64frombits", "internal/abi.NoEscape", "internal/bytealg.MakeNoZero"], unfollowed := true, recurses := true, named := ["shoebox/figure.slopes", "shoebox/figure.tenths", "shoebox/figure.turns", "math/bits.divideError", "math/bits.overflowError", "internal/strconv.uint64pow10", "math/bits.deBruijn32tab", "math/bits.deBruijn64tab"], apart := false, laid := [("math/bits.deBruijn32tab", laid_math_bits_deBruijn32tab), ("math/bits.deBruijn64tab", laid_math_bits_deBruijn64tab), ("internal/strconv.uint64pow10", laid_internal_strconv_uint64pow10), ("shoebox/figure.slopes", laid_shoebox_figure_slopes), ("shoebox/figure.tenths", laid_shoebox_figure_tenths), ("shoebox/figure.turns", laid_shoebox_figure_turns)] }
def FigureSumsSaid : Prop := figureSumsRow.holds Tryz.pinned (OpenSpec.ofChange figureSumsSpec)

/-- ITS FALSE NEIGHBOUR: 'it returns false'. Refute it at one input. -/
def figureSumsWrong : ChangeSpec := { name := "figureSums", fn := fun _ => fun
  | [d] => { results := [.lit (.bool false)], args := [d] }
  | _ => none }
def FigureSumsWrongFalsely : Prop := figureSumsRow.holds Tryz.pinned (OpenSpec.ofChange figureSumsWrong)

/-- 'shoeboxlaw05.FigureDrops': WHATEVER THE INPUT: true; the input reads as it did. -/
def figureDropsSpec : ChangeSpec := { name := "figureDrops", fn := fun _ => fun
  | [d1, d2] => { results := [.lit (.bool true)], args := [d1, d2] }
  | _ => none }
def figureDropsRow : OpenClaim := { program := "ytlhanhijfdnjfaagreatdoor", sum := "ab20c359711c4f4dbeea3087cf938652332d88aeea53276dc2f102a8da8b3b28", func := "shoebox/shoeboxlaw05.FigureDrops", spec := "figureDrops", inPlace := ["math.archTrunc", "math.Float64bits", "math.Float64frombits", "internal/abi.NoEscape", "internal/bytealg.MakeNoZero"], unfollowed := true, recurses := true, named := ["shoebox/figure.slopes", "shoebox/figure.tenths", "shoebox/figure.turns", "math/bits.divideError", "math/bits.overflowError", "internal/strconv.uint64pow10", "math/bits.deBruijn32tab", "math/bits.deBruijn64tab"], apart := false, laid := [("math/bits.deBruijn32tab", laid_math_bits_deBruijn32tab), ("math/bits.deBruijn64tab", laid_math_bits_deBruijn64tab), ("internal/strconv.uint64pow10", laid_internal_strconv_uint64pow10), ("shoebox/figure.slopes", laid_shoebox_figure_slopes), ("shoebox/figure.tenths", laid_shoebox_figure_tenths), ("shoebox/figure.turns", laid_shoebox_figure_turns)] }
def FigureDropsSaid : Prop := figureDropsRow.holds Tryz.pinned (OpenSpec.ofChange figureDropsSpec)

/-- ITS FALSE NEIGHBOUR: 'it returns false'. Refute it at one input. -/
def figureDropsWrong : ChangeSpec := { name := "figureDrops", fn := fun _ => fun
  | [d1, d2] => { results := [.lit (.bool false)], args := [d1, d2] }
  | _ => none }
def FigureDropsWrongFalsely : Prop := figureDropsRow.holds Tryz.pinned (OpenSpec.ofChange figureDropsWrong)

/-- 'shoeboxlaw05.FigureDecays': WHATEVER THE INPUT: true; the input reads as it did. -/
def figureDecaysSpec : ChangeSpec := { name := "figureDecays", fn := fun _ => fun
  | [d1, d2] => { results := [.lit (.bool true)], args := [d1, d2] }
  | _ => none }
def figureDecaysRow : OpenClaim := { program := "ytlhanhijfdnjfaagreatdoor", sum := "ab20c359711c4f4dbeea3087cf938652332d88aeea53276dc2f102a8da8b3b28", func := "shoebox/shoeboxlaw05.FigureDecays", spec := "figureDecays", inPlace := ["math.archTrunc", "math.Float64bits", "math.Float64frombits", "internal/abi.NoEscape", "internal/bytealg.MakeNoZero"], unfollowed := true, recurses := true, named := ["shoebox/figure.slopes", "shoebox/figure.tenths", "shoebox/figure.turns", "math/bits.divideError", "math/bits.overflowError", "internal/strconv.uint64pow10", "math/bits.deBruijn32tab", "math/bits.deBruijn64tab"], apart := false, laid := [("math/bits.deBruijn32tab", laid_math_bits_deBruijn32tab), ("math/bits.deBruijn64tab", laid_math_bits_deBruijn64tab), ("internal/strconv.uint64pow10", laid_internal_strconv_uint64pow10), ("shoebox/figure.slopes", laid_shoebox_figure_slopes), ("shoebox/figure.tenths", laid_shoebox_figure_tenths), ("shoebox/figure.turns", laid_shoebox_figure_turns)] }
def FigureDecaysSaid : Prop := figureDecaysRow.holds Tryz.pinned (OpenSpec.ofChange figureDecaysSpec)

/-- ITS FALSE NEIGHBOUR: 'it returns false'. Refute it at one input. -/
def figureDecaysWrong : ChangeSpec := { name := "figureDecays", fn := fun _ => fun
  | [d1, d2] => { results := [.lit (.bool false)], args := [d1, d2] }
  | _ => none }
def FigureDecaysWrongFalsely : Prop := figureDecaysRow.holds Tryz.pinned (OpenSpec.ofChange figureDecaysWrong)

/-- 'shoeboxlaw05.FigureDefinitions': WHATEVER THE INPUT: true; the input reads as it did. -/
def figureDefinitionsSpec : ChangeSpec := { name := "figureDefinitions", fn := fun _ => fun
  | [d1, d2] => { results := [.lit (.bool true)], args := [d1, d2] }
  | _ => none }
def figureDefinitionsRow : OpenClaim := { program := "ytlhanhijfdnjfaagreatdoor", sum := "ab20c359711c4f4dbeea3087cf938652332d88aeea53276dc2f102a8da8b3b28", func := "shoebox/shoeboxlaw05.FigureDefinitions", spec := "figureDefinitions", inPlace := ["math.archTrunc", "math.Float64bits", "math.Float64frombits", "internal/abi.NoEscape", "internal/bytealg.MakeNoZero"], unfollowed := true, recurses := true, named := ["shoebox/figure.slopes", "shoebox/figure.tenths", "shoebox/figure.turns", "math/bits.divideError", "math/bits.overflowError", "internal/strconv.uint64pow10", "math/bits.deBruijn32tab", "math/bits.deBruijn64tab"], apart := false, laid := [("math/bits.deBruijn32tab", laid_math_bits_deBruijn32tab), ("math/bits.deBruijn64tab", laid_math_bits_deBruijn64tab), ("internal/strconv.uint64pow10", laid_internal_strconv_uint64pow10), ("shoebox/figure.slopes", laid_shoebox_figure_slopes), ("shoebox/figure.tenths", laid_shoebox_figure_tenths), ("shoebox/figure.turns", laid_shoebox_figure_turns)] }
def FigureDefinitionsSaid : Prop := figureDefinitionsRow.holds Tryz.pinned (OpenSpec.ofChange figureDefinitionsSpec)

/-- ITS FALSE NEIGHBOUR: 'it returns false'. Refute it at one input. -/
def figureDefinitionsWrong : ChangeSpec := { name := "figureDefinitions", fn := fun _ => fun
  | [d1, d2] => { results := [.lit (.bool false)], args := [d1, d2] }
  | _ => none }
def FigureDefinitionsWrongFalsely : Prop := figureDefinitionsRow.holds Tryz.pinned (OpenSpec.ofChange figureDefinitionsWrong)

/-- 'shoeboxlaw05.FigureLateral': WHATEVER THE INPUT: true; the input reads as it did. -/
def figureLateralSpec : ChangeSpec := { name := "figureLateral", fn := fun _ => fun
  | [d1, d2] => { results := [.lit (.bool true)], args := [d1, d2] }
  | _ => none }
def figureLateralRow : OpenClaim := { program := "ytlhanhijfdnjfaagreatdoor", sum := "ab20c359711c4f4dbeea3087cf938652332d88aeea53276dc2f102a8da8b3b28", func := "shoebox/shoeboxlaw05.FigureLateral", spec := "figureLateral", inPlace := ["math.archTrunc", "math.Float64bits", "math.Float64frombits", "internal/abi.NoEscape", "internal/bytealg.MakeNoZero"], unfollowed := true, recurses := true, named := ["shoebox/figure.slopes", "shoebox/figure.tenths", "shoebox/figure.turns", "math/bits.divideError", "math/bits.overflowError", "internal/strconv.uint64pow10", "math/bits.deBruijn32tab", "math/bits.deBruijn64tab"], apart := false, laid := [("math/bits.deBruijn32tab", laid_math_bits_deBruijn32tab), ("math/bits.deBruijn64tab", laid_math_bits_deBruijn64tab), ("internal/strconv.uint64pow10", laid_internal_strconv_uint64pow10), ("shoebox/figure.slopes", laid_shoebox_figure_slopes), ("shoebox/figure.tenths", laid_shoebox_figure_tenths), ("shoebox/figure.turns", laid_shoebox_figure_turns)] }
def FigureLateralSaid : Prop := figureLateralRow.holds Tryz.pinned (OpenSpec.ofChange figureLateralSpec)

/-- ITS FALSE NEIGHBOUR: 'it returns false'. Refute it at one input. -/
def figureLateralWrong : ChangeSpec := { name := "figureLateral", fn := fun _ => fun
  | [d1, d2] => { results := [.lit (.bool false)], args := [d1, d2] }
  | _ => none }
def FigureLateralWrongFalsely : Prop := figureLateralRow.holds Tryz.pinned (OpenSpec.ofChange figureLateralWrong)

/-- 'shoeboxlaw05.FigureCentres': WHATEVER THE INPUT: true; the input reads as it did. -/
def figureCentresSpec : ChangeSpec := { name := "figureCentres", fn := fun _ => fun
  | [d] => { results := [.lit (.bool true)], args := [d] }
  | _ => none }
def figureCentresRow : OpenClaim := { program := "ytlhanhijfdnjfaagreatdoor", sum := "ab20c359711c4f4dbeea3087cf938652332d88aeea53276dc2f102a8da8b3b28", func := "shoebox/shoeboxlaw05.FigureCentres", spec := "figureCentres", inPlace := ["math.archTrunc", "math.Float64bits", "math.Float64frombits", "internal/abi.NoEscape", "internal/bytealg.MakeNoZero"], unfollowed := true, recurses := true, named := ["shoebox/figure.slopes", "shoebox/figure.tenths", "shoebox/figure.turns", "math/bits.divideError", "math/bits.overflowError", "internal/strconv.uint64pow10", "math/bits.deBruijn32tab", "math/bits.deBruijn64tab"], apart := false, laid := [("math/bits.deBruijn32tab", laid_math_bits_deBruijn32tab), ("math/bits.deBruijn64tab", laid_math_bits_deBruijn64tab), ("internal/strconv.uint64pow10", laid_internal_strconv_uint64pow10), ("shoebox/figure.slopes", laid_shoebox_figure_slopes), ("shoebox/figure.tenths", laid_shoebox_figure_tenths), ("shoebox/figure.turns", laid_shoebox_figure_turns)] }
def FigureCentresSaid : Prop := figureCentresRow.holds Tryz.pinned (OpenSpec.ofChange figureCentresSpec)

/-- ITS FALSE NEIGHBOUR: 'it returns false'. Refute it at one input. -/
def figureCentresWrong : ChangeSpec := { name := "figureCentres", fn := fun _ => fun
  | [d] => { results := [.lit (.bool false)], args := [d] }
  | _ => none }
def FigureCentresWrongFalsely : Prop := figureCentresRow.holds Tryz.pinned (OpenSpec.ofChange figureCentresWrong)

/- THE SECOND FORM. 'bulk': how many values and letters a reading holds, each counted each time it is reached (what is shared counts as often as it is met; a slice's spare places count too). A statement '..UptoSaid' is the law's where the arguments, and the package variables that the reading takes, are together of bulk at most 1048576: NARROWER than '..Said'. Prove '..Said' where nothing that the law and all that it calls make is longer than what came in: it says more and counts as full. Else prove '..UptoSaid'. A law counts once. -/
mutual
def uptoBulk {H : Type} : DataW H → Nat
  | .lit (.string bytes) => bytes.length + 1
  | .lit _ => 1
  | .nil => 1
  | .ptr d => uptoBulk d + 1
  | .slice elems spare => uptoBulkAll elems + uptoBulkAll spare + 1
  | .agg parts => uptoBulkAll parts + 1
  | .iface _ d => uptoBulk d + 1
  | .map entries => uptoBulkEntries entries + 1
  | .held _ => 1
def uptoBulkAll {H : Type} : List (DataW H) → Nat
  | [] => 0
  | d :: r => uptoBulk d + uptoBulkAll r
def uptoBulkEntries {H : Type} : List (Lit × DataW H) → Nat
  | [] => 0
  | x :: r => uptoBulkEntry x + uptoBulkEntries r
def uptoBulkEntry {H : Type} : Lit × DataW H → Nat
  | (.string bytes, d) => bytes.length + uptoBulk d + 1
  | (_, d) => uptoBulk d + 1
 end
def uptoSmall : (H : Type) → List (DataW H) → Bool := fun _ ds => decide (uptoBulkAll ds ≤ 1048576)
def OpenSpec.upto (s : _root_.Go.ChangeSpec) : _root_.Go.OpenSpec := { _root_.Go.OpenSpec.ofChange s with cond := some uptoSmall }

/-- 'shoeboxlaw05.FigureResponses', WHERE WHAT IT READS IS OF BULK AT MOST 1048576: true; the input reads as it did. -/
def figureResponsesUptoRow : OpenClaim := { program := "ytlhanhijfdnjfaagreatdoor", sum := "ab20c359711c4f4dbeea3087cf938652332d88aeea53276dc2f102a8da8b3b28", func := "shoebox/shoeboxlaw05.FigureResponses", spec := "figureResponses", inPlace := ["math.archTrunc", "math.Float64bits", "math.Float64frombits", "internal/abi.NoEscape", "internal/bytealg.MakeNoZero"], unfollowed := true, recurses := true, named := ["shoebox/figure.slopes", "shoebox/figure.tenths", "shoebox/figure.turns", "math/bits.divideError", "math/bits.overflowError", "internal/strconv.uint64pow10", "math/bits.deBruijn32tab", "math/bits.deBruijn64tab"], apart := false, laid := [("math/bits.deBruijn32tab", laid_math_bits_deBruijn32tab), ("math/bits.deBruijn64tab", laid_math_bits_deBruijn64tab), ("internal/strconv.uint64pow10", laid_internal_strconv_uint64pow10), ("shoebox/figure.slopes", laid_shoebox_figure_slopes), ("shoebox/figure.tenths", laid_shoebox_figure_tenths), ("shoebox/figure.turns", laid_shoebox_figure_turns)], narrowed := true }
def FigureResponsesUptoSaid : Prop := figureResponsesUptoRow.holds Tryz.pinned (OpenSpec.upto figureResponsesSpec)

/-- 'shoeboxlaw05.FigureEnergies', WHERE WHAT IT READS IS OF BULK AT MOST 1048576: true; the input reads as it did. -/
def figureEnergiesUptoRow : OpenClaim := { program := "ytlhanhijfdnjfaagreatdoor", sum := "ab20c359711c4f4dbeea3087cf938652332d88aeea53276dc2f102a8da8b3b28", func := "shoebox/shoeboxlaw05.FigureEnergies", spec := "figureEnergies", inPlace := ["math.archTrunc", "math.Float64bits", "math.Float64frombits", "internal/abi.NoEscape", "internal/bytealg.MakeNoZero"], unfollowed := true, recurses := true, named := ["shoebox/figure.slopes", "shoebox/figure.tenths", "shoebox/figure.turns", "math/bits.divideError", "math/bits.overflowError", "internal/strconv.uint64pow10", "math/bits.deBruijn32tab", "math/bits.deBruijn64tab"], apart := false, laid := [("math/bits.deBruijn32tab", laid_math_bits_deBruijn32tab), ("math/bits.deBruijn64tab", laid_math_bits_deBruijn64tab), ("internal/strconv.uint64pow10", laid_internal_strconv_uint64pow10), ("shoebox/figure.slopes", laid_shoebox_figure_slopes), ("shoebox/figure.tenths", laid_shoebox_figure_tenths), ("shoebox/figure.turns", laid_shoebox_figure_turns)], narrowed := true }
def FigureEnergiesUptoSaid : Prop := figureEnergiesUptoRow.holds Tryz.pinned (OpenSpec.upto figureEnergiesSpec)

/-- 'shoeboxlaw05.FigureSums', WHERE WHAT IT READS IS OF BULK AT MOST 1048576: true; the input reads as it did. -/
def figureSumsUptoRow : OpenClaim := { program := "ytlhanhijfdnjfaagreatdoor", sum := "ab20c359711c4f4dbeea3087cf938652332d88aeea53276dc2f102a8da8b3b28", func := "shoebox/shoeboxlaw05.FigureSums", spec := "figureSums", inPlace := ["math.archTrunc", "math.Float64bits", "math.Float64frombits", "internal/abi.NoEscape", "internal/bytealg.MakeNoZero"], unfollowed := true, recurses := true, named := ["shoebox/figure.slopes", "shoebox/figure.tenths", "shoebox/figure.turns", "math/bits.divideError", "math/bits.overflowError", "internal/strconv.uint64pow10", "math/bits.deBruijn32tab", "math/bits.deBruijn64tab"], apart := false, laid := [("math/bits.deBruijn32tab", laid_math_bits_deBruijn32tab), ("math/bits.deBruijn64tab", laid_math_bits_deBruijn64tab), ("internal/strconv.uint64pow10", laid_internal_strconv_uint64pow10), ("shoebox/figure.slopes", laid_shoebox_figure_slopes), ("shoebox/figure.tenths", laid_shoebox_figure_tenths), ("shoebox/figure.turns", laid_shoebox_figure_turns)], narrowed := true }
def FigureSumsUptoSaid : Prop := figureSumsUptoRow.holds Tryz.pinned (OpenSpec.upto figureSumsSpec)

/-- 'shoeboxlaw05.FigureDrops', WHERE WHAT IT READS IS OF BULK AT MOST 1048576: true; the input reads as it did. -/
def figureDropsUptoRow : OpenClaim := { program := "ytlhanhijfdnjfaagreatdoor", sum := "ab20c359711c4f4dbeea3087cf938652332d88aeea53276dc2f102a8da8b3b28", func := "shoebox/shoeboxlaw05.FigureDrops", spec := "figureDrops", inPlace := ["math.archTrunc", "math.Float64bits", "math.Float64frombits", "internal/abi.NoEscape", "internal/bytealg.MakeNoZero"], unfollowed := true, recurses := true, named := ["shoebox/figure.slopes", "shoebox/figure.tenths", "shoebox/figure.turns", "math/bits.divideError", "math/bits.overflowError", "internal/strconv.uint64pow10", "math/bits.deBruijn32tab", "math/bits.deBruijn64tab"], apart := false, laid := [("math/bits.deBruijn32tab", laid_math_bits_deBruijn32tab), ("math/bits.deBruijn64tab", laid_math_bits_deBruijn64tab), ("internal/strconv.uint64pow10", laid_internal_strconv_uint64pow10), ("shoebox/figure.slopes", laid_shoebox_figure_slopes), ("shoebox/figure.tenths", laid_shoebox_figure_tenths), ("shoebox/figure.turns", laid_shoebox_figure_turns)], narrowed := true }
def FigureDropsUptoSaid : Prop := figureDropsUptoRow.holds Tryz.pinned (OpenSpec.upto figureDropsSpec)

/-- 'shoeboxlaw05.FigureDecays', WHERE WHAT IT READS IS OF BULK AT MOST 1048576: true; the input reads as it did. -/
def figureDecaysUptoRow : OpenClaim := { program := "ytlhanhijfdnjfaagreatdoor", sum := "ab20c359711c4f4dbeea3087cf938652332d88aeea53276dc2f102a8da8b3b28", func := "shoebox/shoeboxlaw05.FigureDecays", spec := "figureDecays", inPlace := ["math.archTrunc", "math.Float64bits", "math.Float64frombits", "internal/abi.NoEscape", "internal/bytealg.MakeNoZero"], unfollowed := true, recurses := true, named := ["shoebox/figure.slopes", "shoebox/figure.tenths", "shoebox/figure.turns", "math/bits.divideError", "math/bits.overflowError", "internal/strconv.uint64pow10", "math/bits.deBruijn32tab", "math/bits.deBruijn64tab"], apart := false, laid := [("math/bits.deBruijn32tab", laid_math_bits_deBruijn32tab), ("math/bits.deBruijn64tab", laid_math_bits_deBruijn64tab), ("internal/strconv.uint64pow10", laid_internal_strconv_uint64pow10), ("shoebox/figure.slopes", laid_shoebox_figure_slopes), ("shoebox/figure.tenths", laid_shoebox_figure_tenths), ("shoebox/figure.turns", laid_shoebox_figure_turns)], narrowed := true }
def FigureDecaysUptoSaid : Prop := figureDecaysUptoRow.holds Tryz.pinned (OpenSpec.upto figureDecaysSpec)

/-- 'shoeboxlaw05.FigureDefinitions', WHERE WHAT IT READS IS OF BULK AT MOST 1048576: true; the input reads as it did. -/
def figureDefinitionsUptoRow : OpenClaim := { program := "ytlhanhijfdnjfaagreatdoor", sum := "ab20c359711c4f4dbeea3087cf938652332d88aeea53276dc2f102a8da8b3b28", func := "shoebox/shoeboxlaw05.FigureDefinitions", spec := "figureDefinitions", inPlace := ["math.archTrunc", "math.Float64bits", "math.Float64frombits", "internal/abi.NoEscape", "internal/bytealg.MakeNoZero"], unfollowed := true, recurses := true, named := ["shoebox/figure.slopes", "shoebox/figure.tenths", "shoebox/figure.turns", "math/bits.divideError", "math/bits.overflowError", "internal/strconv.uint64pow10", "math/bits.deBruijn32tab", "math/bits.deBruijn64tab"], apart := false, laid := [("math/bits.deBruijn32tab", laid_math_bits_deBruijn32tab), ("math/bits.deBruijn64tab", laid_math_bits_deBruijn64tab), ("internal/strconv.uint64pow10", laid_internal_strconv_uint64pow10), ("shoebox/figure.slopes", laid_shoebox_figure_slopes), ("shoebox/figure.tenths", laid_shoebox_figure_tenths), ("shoebox/figure.turns", laid_shoebox_figure_turns)], narrowed := true }
def FigureDefinitionsUptoSaid : Prop := figureDefinitionsUptoRow.holds Tryz.pinned (OpenSpec.upto figureDefinitionsSpec)

/-- 'shoeboxlaw05.FigureLateral', WHERE WHAT IT READS IS OF BULK AT MOST 1048576: true; the input reads as it did. -/
def figureLateralUptoRow : OpenClaim := { program := "ytlhanhijfdnjfaagreatdoor", sum := "ab20c359711c4f4dbeea3087cf938652332d88aeea53276dc2f102a8da8b3b28", func := "shoebox/shoeboxlaw05.FigureLateral", spec := "figureLateral", inPlace := ["math.archTrunc", "math.Float64bits", "math.Float64frombits", "internal/abi.NoEscape", "internal/bytealg.MakeNoZero"], unfollowed := true, recurses := true, named := ["shoebox/figure.slopes", "shoebox/figure.tenths", "shoebox/figure.turns", "math/bits.divideError", "math/bits.overflowError", "internal/strconv.uint64pow10", "math/bits.deBruijn32tab", "math/bits.deBruijn64tab"], apart := false, laid := [("math/bits.deBruijn32tab", laid_math_bits_deBruijn32tab), ("math/bits.deBruijn64tab", laid_math_bits_deBruijn64tab), ("internal/strconv.uint64pow10", laid_internal_strconv_uint64pow10), ("shoebox/figure.slopes", laid_shoebox_figure_slopes), ("shoebox/figure.tenths", laid_shoebox_figure_tenths), ("shoebox/figure.turns", laid_shoebox_figure_turns)], narrowed := true }
def FigureLateralUptoSaid : Prop := figureLateralUptoRow.holds Tryz.pinned (OpenSpec.upto figureLateralSpec)

/-- 'shoeboxlaw05.FigureCentres', WHERE WHAT IT READS IS OF BULK AT MOST 1048576: true; the input reads as it did. -/
def figureCentresUptoRow : OpenClaim := { program := "ytlhanhijfdnjfaagreatdoor", sum := "ab20c359711c4f4dbeea3087cf938652332d88aeea53276dc2f102a8da8b3b28", func := "shoebox/shoeboxlaw05.FigureCentres", spec := "figureCentres", inPlace := ["math.archTrunc", "math.Float64bits", "math.Float64frombits", "internal/abi.NoEscape", "internal/bytealg.MakeNoZero"], unfollowed := true, recurses := true, named := ["shoebox/figure.slopes", "shoebox/figure.tenths", "shoebox/figure.turns", "math/bits.divideError", "math/bits.overflowError", "internal/strconv.uint64pow10", "math/bits.deBruijn32tab", "math/bits.deBruijn64tab"], apart := false, laid := [("math/bits.deBruijn32tab", laid_math_bits_deBruijn32tab), ("math/bits.deBruijn64tab", laid_math_bits_deBruijn64tab), ("internal/strconv.uint64pow10", laid_internal_strconv_uint64pow10), ("shoebox/figure.slopes", laid_shoebox_figure_slopes), ("shoebox/figure.tenths", laid_shoebox_figure_tenths), ("shoebox/figure.turns", laid_shoebox_figure_turns)], narrowed := true }
def FigureCentresUptoSaid : Prop := figureCentresUptoRow.holds Tryz.pinned (OpenSpec.upto figureCentresSpec)

end Rows
end Go.Proofs.YtlhanhijfdnjfaaGreatDoor
