/-
  NARROWER THAN 'FOR EVERY INPUT', by the rows' own cells (each row's printed sentence says how): FigureDecays: laid · FigureLevels: laid · FigureClarity: laid · FigureDefinitions: laid · FigureModulates: laid · FigureSheets: laid · FigureCompares: laid · FigureWithin: laid · FigureScales: laid.
  DERIVED. THE GIVEN ROWS OF THIS SEAT. 9 by the template 'for every input the law returns true; each argument reads behind the call as it read before'; 0 by the template 'total and deterministic' (their statements: YtjhneebncpmneaaGreatDoorTotals.lean).
  GIVEN WITH THE SEED: the statements are not yours to turn. If you find one false, say at which input.
  Laid BY PROGRAM, IN A SANDBOX (cutbox-rows.mjs): the forced cells as the released guide's own fill.sh prints them over the translation 545589bea953cb29… (all of the seat's roots in one cut). By AI agents, Wed Nov 11 2026. No macro, syntax, notation, axiom, sorry.
-/
import Derived.Test.YtjhneebncpmneaaGreatDoorChecked
import GoSem.PinnedTables
import GoSem.Claim
import GoSem.ClaimJoined
import GoSem.ClaimMapViews
import Derived.JoinedTies
import Derived.KernelRfl
namespace Go.Proofs.YtjhneebncpmneaaGreatDoor
/- THE CELL 'sum', in the pinned program and in every row, IS THE sha256 OF THE DUMP (.gsa) THAT YtjhneebncpmneaaGreatDoorProg.lean LOADS. Nothing in Lean hashes anything: it is a label: what it is worth is what the hold of that sum in a sandbox is worth. -/
noncomputable def Tryz.pinned : Pinned := { name := "ytjhneebncpmneaagreatdoor", sum := "545589bea953cb292e204432d95845cba70eb7342290d6b8571fd6d59514b83d", checked := Tryz.checked }
namespace Rows
def none {H : Type} : Left H := { results := [], args := [] }

/- WHAT THE LISTED PACKAGE-LEVEL VARIABLES READ AS WHEN THE CALL BEGINS. Each datum BY PROGRAM (the guide's laid-datum.mjs) off the statement by which the dump's own 'gosem.cut.vars' lays the variable. In a bare row this is a premise. The card (YtjhneebncpmneaaGreatDoorCards.lean) ties it to the program's text. -/
def laid_math_bits_deBruijn32tab {H : Type} : DataW H := .agg [.lit (.int .u8 0), .lit (.int .u8 1), .lit (.int .u8 28), .lit (.int .u8 2), .lit (.int .u8 29), .lit (.int .u8 14), .lit (.int .u8 24), .lit (.int .u8 3), .lit (.int .u8 30), .lit (.int .u8 22), .lit (.int .u8 20), .lit (.int .u8 15), .lit (.int .u8 25), .lit (.int .u8 17), .lit (.int .u8 4), .lit (.int .u8 8), .lit (.int .u8 31), .lit (.int .u8 27), .lit (.int .u8 13), .lit (.int .u8 23), .lit (.int .u8 21), .lit (.int .u8 19), .lit (.int .u8 16), .lit (.int .u8 7), .lit (.int .u8 26), .lit (.int .u8 12), .lit (.int .u8 18), .lit (.int .u8 6), .lit (.int .u8 11), .lit (.int .u8 5), .lit (.int .u8 10), .lit (.int .u8 9)]
def laid_math_bits_deBruijn64tab {H : Type} : DataW H := .agg [.lit (.int .u8 0), .lit (.int .u8 1), .lit (.int .u8 56), .lit (.int .u8 2), .lit (.int .u8 57), .lit (.int .u8 49), .lit (.int .u8 28), .lit (.int .u8 3), .lit (.int .u8 61), .lit (.int .u8 58), .lit (.int .u8 42), .lit (.int .u8 50), .lit (.int .u8 38), .lit (.int .u8 29), .lit (.int .u8 17), .lit (.int .u8 4), .lit (.int .u8 62), .lit (.int .u8 47), .lit (.int .u8 59), .lit (.int .u8 36), .lit (.int .u8 45), .lit (.int .u8 43), .lit (.int .u8 51), .lit (.int .u8 22), .lit (.int .u8 53), .lit (.int .u8 39), .lit (.int .u8 33), .lit (.int .u8 30), .lit (.int .u8 24), .lit (.int .u8 18), .lit (.int .u8 12), .lit (.int .u8 5), .lit (.int .u8 63), .lit (.int .u8 55), .lit (.int .u8 48), .lit (.int .u8 27), .lit (.int .u8 60), .lit (.int .u8 41), .lit (.int .u8 37), .lit (.int .u8 16), .lit (.int .u8 46), .lit (.int .u8 35), .lit (.int .u8 44), .lit (.int .u8 21), .lit (.int .u8 52), .lit (.int .u8 32), .lit (.int .u8 23), .lit (.int .u8 11), .lit (.int .u8 54), .lit (.int .u8 26), .lit (.int .u8 40), .lit (.int .u8 15), .lit (.int .u8 34), .lit (.int .u8 20), .lit (.int .u8 31), .lit (.int .u8 10), .lit (.int .u8 25), .lit (.int .u8 14), .lit (.int .u8 19), .lit (.int .u8 9), .lit (.int .u8 13), .lit (.int .u8 8), .lit (.int .u8 7), .lit (.int .u8 6)]
def laid_internal_strconv_uint64pow10 {H : Type} : DataW H := .agg [.lit (.int .u64 1), .lit (.int .u64 10), .lit (.int .u64 100), .lit (.int .u64 1000), .lit (.int .u64 10000), .lit (.int .u64 100000), .lit (.int .u64 1000000), .lit (.int .u64 10000000), .lit (.int .u64 100000000), .lit (.int .u64 1000000000), .lit (.int .u64 10000000000), .lit (.int .u64 100000000000), .lit (.int .u64 1000000000000), .lit (.int .u64 10000000000000), .lit (.int .u64 100000000000000), .lit (.int .u64 1000000000000000), .lit (.int .u64 10000000000000000), .lit (.int .u64 100000000000000000), .lit (.int .u64 1000000000000000000), .lit (.int .u64 10000000000000000000)]
def laid_shoebox_figure_slopes {H : Type} : DataW H := .agg [.agg [.lit (.int .i64 0), .lit (.int .i64 2), .lit (.int .i64 6)], .agg [.lit (.int .i64 1), .lit (.int .i64 5), .lit (.int .i64 3)], .agg [.lit (.int .i64 1), .lit (.int .i64 7), .lit (.int .i64 2)]]
def laid_shoebox_figure_tenths {H : Type} : DataW H := .agg [.lit (.int .i64 1000000000), .lit (.int .i64 1258925411), .lit (.int .i64 1584893192), .lit (.int .i64 1995262314), .lit (.int .i64 2511886431), .lit (.int .i64 3162277660), .lit (.int .i64 3981071705), .lit (.int .i64 5011872336), .lit (.int .i64 6309573444), .lit (.int .i64 7943282347)]
def laid_shoebox_figure_turns {H : Type} : DataW H := .agg [.agg [.lit (.int .i64 1), .lit (.int .i64 0)], .agg [.lit (.int .i64 0), .lit (.int .i64 (-1))], .agg [.lit (.int .i64 (-1)), .lit (.int .i64 0)], .agg [.lit (.int .i64 0), .lit (.int .i64 1)]]
def laid_unicode_utf8_acceptRanges {H : Type} : DataW H := .agg [.agg [.lit (.int .u8 128), .lit (.int .u8 191)], .agg [.lit (.int .u8 160), .lit (.int .u8 191)], .agg [.lit (.int .u8 128), .lit (.int .u8 159)], .agg [.lit (.int .u8 144), .lit (.int .u8 191)], .agg [.lit (.int .u8 128), .lit (.int .u8 143)], .agg [.lit (.int .u8 0), .lit (.int .u8 0)], .agg [.lit (.int .u8 0), .lit (.int .u8 0)], .agg [.lit (.int .u8 0), .lit (.int .u8 0)], .agg [.lit (.int .u8 0), .lit (.int .u8 0)], .agg [.lit (.int .u8 0), .lit (.int .u8 0)], .agg [.lit (.int .u8 0), .lit (.int .u8 0)], .agg [.lit (.int .u8 0), .lit (.int .u8 0)], .agg [.lit (.int .u8 0), .lit (.int .u8 0)], .agg [.lit (.int .u8 0), .lit (.int .u8 0)], .agg [.lit (.int .u8 0), .lit (.int .u8 0)], .agg [.lit (.int .u8 0), .lit (.int .u8 0)]]
def laid_strconv_ErrRange {H : Type} : DataW H := .iface "*errors.errorString" (.ptr (.agg [.lit (.string [118, 97, 108, 117, 101, 32, 111, 117, 116, 32, 111, 102, 32, 114, 97, 110, 103, 101])]))
def laid_strconv_ErrSyntax {H : Type} : DataW H := .iface "*errors.errorString" (.ptr (.agg [.lit (.string [105, 110, 118, 97, 108, 105, 100, 32, 115, 121, 110, 116, 97, 120])]))
/-- One of Go's own tables, pinned by name: the form's constant. -/
def laid_unicode_utf8_first : DataW Unit := Go.Pinned.utf8First

/-- 'shoeboxlaw05.FigureDecays': WHATEVER THE INPUT: true; the input reads as it did. -/
def figureDecaysSpec : ChangeSpec := { name := "figureDecays", fn := fun _ => fun
  | [d1, d2] => { results := [.lit (.bool true)], args := [d1, d2] }
  | _ => none }
def figureDecaysRow : OpenClaim := { program := "ytjhneebncpmneaagreatdoor", sum := "545589bea953cb292e204432d95845cba70eb7342290d6b8571fd6d59514b83d", func := "shoebox/shoeboxlaw05.FigureDecays", spec := "figureDecays", inPlace := ["math.archTrunc", "math.Float64bits", "math.Float64frombits", "internal/abi.NoEscape", "internal/bytealg.MakeNoZero"], unfollowed := true, recurses := true, named := ["shoebox/figure.slopes", "shoebox/figure.tenths", "shoebox/figure.turns", "math/bits.divideError", "math/bits.overflowError", "internal/strconv.uint64pow10", "math/bits.deBruijn32tab", "math/bits.deBruijn64tab"], apart := false, laid := [("math/bits.deBruijn32tab", laid_math_bits_deBruijn32tab), ("math/bits.deBruijn64tab", laid_math_bits_deBruijn64tab), ("internal/strconv.uint64pow10", laid_internal_strconv_uint64pow10), ("shoebox/figure.slopes", laid_shoebox_figure_slopes), ("shoebox/figure.tenths", laid_shoebox_figure_tenths), ("shoebox/figure.turns", laid_shoebox_figure_turns)] }
def FigureDecaysSaid : Prop := figureDecaysRow.holds Tryz.pinned (OpenSpec.ofChange figureDecaysSpec)

/-- ITS FALSE NEIGHBOUR: 'it returns false'. Refute it at one input. -/
def figureDecaysWrong : ChangeSpec := { name := "figureDecays", fn := fun _ => fun
  | [d1, d2] => { results := [.lit (.bool false)], args := [d1, d2] }
  | _ => none }
def FigureDecaysWrongFalsely : Prop := figureDecaysRow.holds Tryz.pinned (OpenSpec.ofChange figureDecaysWrong)

/-- 'shoeboxlaw05.FigureLevels': WHATEVER THE INPUT: true; the input reads as it did. -/
def figureLevelsSpec : ChangeSpec := { name := "figureLevels", fn := fun _ => fun
  | [d1, d2] => { results := [.lit (.bool true)], args := [d1, d2] }
  | _ => none }
def figureLevelsRow : OpenClaim := { program := "ytjhneebncpmneaagreatdoor", sum := "545589bea953cb292e204432d95845cba70eb7342290d6b8571fd6d59514b83d", func := "shoebox/shoeboxlaw05.FigureLevels", spec := "figureLevels", inPlace := ["math.archTrunc", "math.Float64bits", "math.Float64frombits", "internal/abi.NoEscape", "internal/bytealg.MakeNoZero"], unfollowed := true, recurses := true, named := ["shoebox/figure.slopes", "shoebox/figure.tenths", "shoebox/figure.turns", "math/bits.divideError", "math/bits.overflowError", "internal/strconv.uint64pow10", "math/bits.deBruijn32tab", "math/bits.deBruijn64tab"], apart := false, laid := [("math/bits.deBruijn32tab", laid_math_bits_deBruijn32tab), ("math/bits.deBruijn64tab", laid_math_bits_deBruijn64tab), ("internal/strconv.uint64pow10", laid_internal_strconv_uint64pow10), ("shoebox/figure.slopes", laid_shoebox_figure_slopes), ("shoebox/figure.tenths", laid_shoebox_figure_tenths), ("shoebox/figure.turns", laid_shoebox_figure_turns)] }
def FigureLevelsSaid : Prop := figureLevelsRow.holds Tryz.pinned (OpenSpec.ofChange figureLevelsSpec)

/-- ITS FALSE NEIGHBOUR: 'it returns false'. Refute it at one input. -/
def figureLevelsWrong : ChangeSpec := { name := "figureLevels", fn := fun _ => fun
  | [d1, d2] => { results := [.lit (.bool false)], args := [d1, d2] }
  | _ => none }
def FigureLevelsWrongFalsely : Prop := figureLevelsRow.holds Tryz.pinned (OpenSpec.ofChange figureLevelsWrong)

/-- 'shoeboxlaw05.FigureClarity': WHATEVER THE INPUT: true; the input reads as it did. -/
def figureClaritySpec : ChangeSpec := { name := "figureClarity", fn := fun _ => fun
  | [d1, d2] => { results := [.lit (.bool true)], args := [d1, d2] }
  | _ => none }
def figureClarityRow : OpenClaim := { program := "ytjhneebncpmneaagreatdoor", sum := "545589bea953cb292e204432d95845cba70eb7342290d6b8571fd6d59514b83d", func := "shoebox/shoeboxlaw05.FigureClarity", spec := "figureClarity", inPlace := ["math.archTrunc", "math.Float64bits", "math.Float64frombits", "internal/abi.NoEscape", "internal/bytealg.MakeNoZero"], unfollowed := true, recurses := true, named := ["shoebox/figure.slopes", "shoebox/figure.tenths", "shoebox/figure.turns", "math/bits.divideError", "math/bits.overflowError", "internal/strconv.uint64pow10", "math/bits.deBruijn32tab", "math/bits.deBruijn64tab"], apart := false, laid := [("math/bits.deBruijn32tab", laid_math_bits_deBruijn32tab), ("math/bits.deBruijn64tab", laid_math_bits_deBruijn64tab), ("internal/strconv.uint64pow10", laid_internal_strconv_uint64pow10), ("shoebox/figure.slopes", laid_shoebox_figure_slopes), ("shoebox/figure.tenths", laid_shoebox_figure_tenths), ("shoebox/figure.turns", laid_shoebox_figure_turns)] }
def FigureClaritySaid : Prop := figureClarityRow.holds Tryz.pinned (OpenSpec.ofChange figureClaritySpec)

/-- ITS FALSE NEIGHBOUR: 'it returns false'. Refute it at one input. -/
def figureClarityWrong : ChangeSpec := { name := "figureClarity", fn := fun _ => fun
  | [d1, d2] => { results := [.lit (.bool false)], args := [d1, d2] }
  | _ => none }
def FigureClarityWrongFalsely : Prop := figureClarityRow.holds Tryz.pinned (OpenSpec.ofChange figureClarityWrong)

/-- 'shoeboxlaw05.FigureDefinitions': WHATEVER THE INPUT: true; the input reads as it did. -/
def figureDefinitionsSpec : ChangeSpec := { name := "figureDefinitions", fn := fun _ => fun
  | [d1, d2] => { results := [.lit (.bool true)], args := [d1, d2] }
  | _ => none }
def figureDefinitionsRow : OpenClaim := { program := "ytjhneebncpmneaagreatdoor", sum := "545589bea953cb292e204432d95845cba70eb7342290d6b8571fd6d59514b83d", func := "shoebox/shoeboxlaw05.FigureDefinitions", spec := "figureDefinitions", inPlace := ["math.archTrunc", "math.Float64bits", "math.Float64frombits", "internal/abi.NoEscape", "internal/bytealg.MakeNoZero"], unfollowed := true, recurses := true, named := ["shoebox/figure.slopes", "shoebox/figure.tenths", "shoebox/figure.turns", "math/bits.divideError", "math/bits.overflowError", "internal/strconv.uint64pow10", "math/bits.deBruijn32tab", "math/bits.deBruijn64tab"], apart := false, laid := [("math/bits.deBruijn32tab", laid_math_bits_deBruijn32tab), ("math/bits.deBruijn64tab", laid_math_bits_deBruijn64tab), ("internal/strconv.uint64pow10", laid_internal_strconv_uint64pow10), ("shoebox/figure.slopes", laid_shoebox_figure_slopes), ("shoebox/figure.tenths", laid_shoebox_figure_tenths), ("shoebox/figure.turns", laid_shoebox_figure_turns)] }
def FigureDefinitionsSaid : Prop := figureDefinitionsRow.holds Tryz.pinned (OpenSpec.ofChange figureDefinitionsSpec)

/-- ITS FALSE NEIGHBOUR: 'it returns false'. Refute it at one input. -/
def figureDefinitionsWrong : ChangeSpec := { name := "figureDefinitions", fn := fun _ => fun
  | [d1, d2] => { results := [.lit (.bool false)], args := [d1, d2] }
  | _ => none }
def FigureDefinitionsWrongFalsely : Prop := figureDefinitionsRow.holds Tryz.pinned (OpenSpec.ofChange figureDefinitionsWrong)

/-- 'shoeboxlaw05.FigureModulates': WHATEVER THE INPUT: true; the input reads as it did. -/
def figureModulatesSpec : ChangeSpec := { name := "figureModulates", fn := fun _ => fun
  | [d1, d2] => { results := [.lit (.bool true)], args := [d1, d2] }
  | _ => none }
def figureModulatesRow : OpenClaim := { program := "ytjhneebncpmneaagreatdoor", sum := "545589bea953cb292e204432d95845cba70eb7342290d6b8571fd6d59514b83d", func := "shoebox/shoeboxlaw05.FigureModulates", spec := "figureModulates", inPlace := ["math.archTrunc", "math.Float64bits", "math.Float64frombits", "internal/abi.NoEscape", "internal/bytealg.MakeNoZero"], unfollowed := true, recurses := true, named := ["shoebox/figure.slopes", "shoebox/figure.tenths", "shoebox/figure.turns", "math/bits.divideError", "math/bits.overflowError", "internal/strconv.uint64pow10", "math/bits.deBruijn32tab", "math/bits.deBruijn64tab"], apart := false, laid := [("math/bits.deBruijn32tab", laid_math_bits_deBruijn32tab), ("math/bits.deBruijn64tab", laid_math_bits_deBruijn64tab), ("internal/strconv.uint64pow10", laid_internal_strconv_uint64pow10), ("shoebox/figure.slopes", laid_shoebox_figure_slopes), ("shoebox/figure.tenths", laid_shoebox_figure_tenths), ("shoebox/figure.turns", laid_shoebox_figure_turns)] }
def FigureModulatesSaid : Prop := figureModulatesRow.holds Tryz.pinned (OpenSpec.ofChange figureModulatesSpec)

/-- ITS FALSE NEIGHBOUR: 'it returns false'. Refute it at one input. -/
def figureModulatesWrong : ChangeSpec := { name := "figureModulates", fn := fun _ => fun
  | [d1, d2] => { results := [.lit (.bool false)], args := [d1, d2] }
  | _ => none }
def FigureModulatesWrongFalsely : Prop := figureModulatesRow.holds Tryz.pinned (OpenSpec.ofChange figureModulatesWrong)

/-- 'shoeboxlaw05.FigureSheets': WHATEVER THE INPUT: true; the input reads as it did. -/
def figureSheetsSpec : ChangeSpec := { name := "figureSheets", fn := fun _ => fun
  | [d] => { results := [.lit (.bool true)], args := [d] }
  | _ => none }
def figureSheetsRow : OpenClaim := { program := "ytjhneebncpmneaagreatdoor", sum := "545589bea953cb292e204432d95845cba70eb7342290d6b8571fd6d59514b83d", func := "shoebox/shoeboxlaw05.FigureSheets", spec := "figureSheets", inPlace := ["math.archTrunc", "math.Float64bits", "math.Float64frombits", "internal/abi.NoEscape", "internal/bytealg.MakeNoZero", "internal/bytealg.CountString", "internal/bytealg.IndexByteString", "internal/bytealg.IndexString"], unfollowed := true, recurses := true, named := ["shoebox/figure.slopes", "shoebox/figure.tenths", "shoebox/figure.turns", "math/bits.divideError", "math/bits.overflowError", "internal/strconv.uint64pow10", "math/bits.deBruijn32tab", "math/bits.deBruijn64tab", "unicode/utf8.first", "unicode/utf8.acceptRanges", "internal/bytealg.MaxLen", "strconv.ErrSyntax", "strconv.ErrRange"], apart := false, laid := [("math/bits.deBruijn32tab", laid_math_bits_deBruijn32tab), ("math/bits.deBruijn64tab", laid_math_bits_deBruijn64tab), ("internal/strconv.uint64pow10", laid_internal_strconv_uint64pow10), ("unicode/utf8.acceptRanges", laid_unicode_utf8_acceptRanges), ("strconv.ErrRange", laid_strconv_ErrRange), ("strconv.ErrSyntax", laid_strconv_ErrSyntax), ("shoebox/figure.slopes", laid_shoebox_figure_slopes), ("shoebox/figure.tenths", laid_shoebox_figure_tenths), ("shoebox/figure.turns", laid_shoebox_figure_turns), ("unicode/utf8.first", laid_unicode_utf8_first)] }
def FigureSheetsSaid : Prop := figureSheetsRow.holds Tryz.pinned (OpenSpec.ofChange figureSheetsSpec)

/-- ITS FALSE NEIGHBOUR: 'it returns false'. Refute it at one input. -/
def figureSheetsWrong : ChangeSpec := { name := "figureSheets", fn := fun _ => fun
  | [d] => { results := [.lit (.bool false)], args := [d] }
  | _ => none }
def FigureSheetsWrongFalsely : Prop := figureSheetsRow.holds Tryz.pinned (OpenSpec.ofChange figureSheetsWrong)

/-- 'shoeboxlaw05.FigureCompares': WHATEVER THE INPUT: true; the input reads as it did. -/
def figureComparesSpec : ChangeSpec := { name := "figureCompares", fn := fun _ => fun
  | [d1, d2] => { results := [.lit (.bool true)], args := [d1, d2] }
  | _ => none }
def figureComparesRow : OpenClaim := { program := "ytjhneebncpmneaagreatdoor", sum := "545589bea953cb292e204432d95845cba70eb7342290d6b8571fd6d59514b83d", func := "shoebox/shoeboxlaw05.FigureCompares", spec := "figureCompares", inPlace := ["math.archTrunc", "math.Float64bits", "math.Float64frombits", "internal/abi.NoEscape", "internal/bytealg.MakeNoZero"], unfollowed := true, recurses := true, named := ["shoebox/figure.slopes", "shoebox/figure.tenths", "shoebox/figure.turns", "math/bits.divideError", "math/bits.overflowError", "internal/strconv.uint64pow10", "math/bits.deBruijn32tab", "math/bits.deBruijn64tab"], apart := false, laid := [("math/bits.deBruijn32tab", laid_math_bits_deBruijn32tab), ("math/bits.deBruijn64tab", laid_math_bits_deBruijn64tab), ("internal/strconv.uint64pow10", laid_internal_strconv_uint64pow10), ("shoebox/figure.slopes", laid_shoebox_figure_slopes), ("shoebox/figure.tenths", laid_shoebox_figure_tenths), ("shoebox/figure.turns", laid_shoebox_figure_turns)] }
def FigureComparesSaid : Prop := figureComparesRow.holds Tryz.pinned (OpenSpec.ofChange figureComparesSpec)

/-- ITS FALSE NEIGHBOUR: 'it returns false'. Refute it at one input. -/
def figureComparesWrong : ChangeSpec := { name := "figureCompares", fn := fun _ => fun
  | [d1, d2] => { results := [.lit (.bool false)], args := [d1, d2] }
  | _ => none }
def FigureComparesWrongFalsely : Prop := figureComparesRow.holds Tryz.pinned (OpenSpec.ofChange figureComparesWrong)

/-- 'shoeboxlaw05.FigureWithin': WHATEVER THE INPUT: true; the input reads as it did. -/
def figureWithinSpec : ChangeSpec := { name := "figureWithin", fn := fun _ => fun
  | [d1, d2, d3] => { results := [.lit (.bool true)], args := [d1, d2, d3] }
  | _ => none }
def figureWithinRow : OpenClaim := { program := "ytjhneebncpmneaagreatdoor", sum := "545589bea953cb292e204432d95845cba70eb7342290d6b8571fd6d59514b83d", func := "shoebox/shoeboxlaw05.FigureWithin", spec := "figureWithin", inPlace := ["math.archTrunc", "math.Float64bits", "math.Float64frombits", "internal/abi.NoEscape", "internal/bytealg.MakeNoZero"], unfollowed := true, recurses := true, named := ["shoebox/figure.slopes", "shoebox/figure.tenths", "shoebox/figure.turns", "math/bits.divideError", "math/bits.overflowError", "internal/strconv.uint64pow10", "math/bits.deBruijn32tab", "math/bits.deBruijn64tab"], apart := false, laid := [("math/bits.deBruijn32tab", laid_math_bits_deBruijn32tab), ("math/bits.deBruijn64tab", laid_math_bits_deBruijn64tab), ("internal/strconv.uint64pow10", laid_internal_strconv_uint64pow10), ("shoebox/figure.slopes", laid_shoebox_figure_slopes), ("shoebox/figure.tenths", laid_shoebox_figure_tenths), ("shoebox/figure.turns", laid_shoebox_figure_turns)] }
def FigureWithinSaid : Prop := figureWithinRow.holds Tryz.pinned (OpenSpec.ofChange figureWithinSpec)

/-- ITS FALSE NEIGHBOUR: 'it returns false'. Refute it at one input. -/
def figureWithinWrong : ChangeSpec := { name := "figureWithin", fn := fun _ => fun
  | [d1, d2, d3] => { results := [.lit (.bool false)], args := [d1, d2, d3] }
  | _ => none }
def FigureWithinWrongFalsely : Prop := figureWithinRow.holds Tryz.pinned (OpenSpec.ofChange figureWithinWrong)

/-- 'shoeboxlaw05.FigureScales': WHATEVER THE INPUT: true; the input reads as it did. -/
def figureScalesSpec : ChangeSpec := { name := "figureScales", fn := fun _ => fun
  | [d1, d2, d3] => { results := [.lit (.bool true)], args := [d1, d2, d3] }
  | _ => none }
def figureScalesRow : OpenClaim := { program := "ytjhneebncpmneaagreatdoor", sum := "545589bea953cb292e204432d95845cba70eb7342290d6b8571fd6d59514b83d", func := "shoebox/shoeboxlaw05.FigureScales", spec := "figureScales", inPlace := ["math.archTrunc", "math.Float64bits", "math.Float64frombits", "internal/abi.NoEscape", "internal/bytealg.MakeNoZero"], unfollowed := true, recurses := true, named := ["shoebox/figure.slopes", "shoebox/figure.tenths", "shoebox/figure.turns", "math/bits.divideError", "math/bits.overflowError", "internal/strconv.uint64pow10", "math/bits.deBruijn32tab", "math/bits.deBruijn64tab"], apart := false, laid := [("math/bits.deBruijn32tab", laid_math_bits_deBruijn32tab), ("math/bits.deBruijn64tab", laid_math_bits_deBruijn64tab), ("internal/strconv.uint64pow10", laid_internal_strconv_uint64pow10), ("shoebox/figure.slopes", laid_shoebox_figure_slopes), ("shoebox/figure.tenths", laid_shoebox_figure_tenths), ("shoebox/figure.turns", laid_shoebox_figure_turns)] }
def FigureScalesSaid : Prop := figureScalesRow.holds Tryz.pinned (OpenSpec.ofChange figureScalesSpec)

/-- ITS FALSE NEIGHBOUR: 'it returns false'. Refute it at one input. -/
def figureScalesWrong : ChangeSpec := { name := "figureScales", fn := fun _ => fun
  | [d1, d2, d3] => { results := [.lit (.bool false)], args := [d1, d2, d3] }
  | _ => none }
def FigureScalesWrongFalsely : Prop := figureScalesRow.holds Tryz.pinned (OpenSpec.ofChange figureScalesWrong)

/- THE SECOND FORM. 'bulk': how many values and letters a reading holds, each counted each time it is reached (what is shared counts as often as it is met; a slice's spare places count too). A statement '..UptoSaid' is the law's where the arguments, and the package variables that the reading takes, are together of bulk at most 1048576: NARROWER than '..Said'. Prove '..Said' where nothing that the law and all that it calls make is longer than what came in: it says more and counts as full. Else prove '..UptoSaid'. A law counts once. -/
mutual
def uptoBulk {H : Type} : DataW H → Nat
  | .lit (.string bytes) => bytes.length + 1
  | .lit _ => 1
  | .nil => 1
  | .ptr d => uptoBulk d + 1
  | .slice elems spare => uptoBulkAll elems + uptoBulkAll spare + 1
  | .agg parts => uptoBulkAll parts + 1
  | .iface _ d => uptoBulk d + 1
  | .map entries => uptoBulkEntries entries + 1
  | .held _ => 1
def uptoBulkAll {H : Type} : List (DataW H) → Nat
  | [] => 0
  | d :: r => uptoBulk d + uptoBulkAll r
def uptoBulkEntries {H : Type} : List (Lit × DataW H) → Nat
  | [] => 0
  | x :: r => uptoBulkEntry x + uptoBulkEntries r
def uptoBulkEntry {H : Type} : Lit × DataW H → Nat
  | (.string bytes, d) => bytes.length + uptoBulk d + 1
  | (_, d) => uptoBulk d + 1
 end
def uptoSmall : (H : Type) → List (DataW H) → Bool := fun _ ds => decide (uptoBulkAll ds ≤ 1048576)
def OpenSpec.upto (s : _root_.Go.ChangeSpec) : _root_.Go.OpenSpec := { _root_.Go.OpenSpec.ofChange s with cond := some uptoSmall }

/-- 'shoeboxlaw05.FigureDecays', WHERE WHAT IT READS IS OF BULK AT MOST 1048576: true; the input reads as it did. -/
def figureDecaysUptoRow : OpenClaim := { program := "ytjhneebncpmneaagreatdoor", sum := "545589bea953cb292e204432d95845cba70eb7342290d6b8571fd6d59514b83d", func := "shoebox/shoeboxlaw05.FigureDecays", spec := "figureDecays", inPlace := ["math.archTrunc", "math.Float64bits", "math.Float64frombits", "internal/abi.NoEscape", "internal/bytealg.MakeNoZero"], unfollowed := true, recurses := true, named := ["shoebox/figure.slopes", "shoebox/figure.tenths", "shoebox/figure.turns", "math/bits.divideError", "math/bits.overflowError", "internal/strconv.uint64pow10", "math/bits.deBruijn32tab", "math/bits.deBruijn64tab"], apart := false, laid := [("math/bits.deBruijn32tab", laid_math_bits_deBruijn32tab), ("math/bits.deBruijn64tab", laid_math_bits_deBruijn64tab), ("internal/strconv.uint64pow10", laid_internal_strconv_uint64pow10), ("shoebox/figure.slopes", laid_shoebox_figure_slopes), ("shoebox/figure.tenths", laid_shoebox_figure_tenths), ("shoebox/figure.turns", laid_shoebox_figure_turns)], narrowed := true }
def FigureDecaysUptoSaid : Prop := figureDecaysUptoRow.holds Tryz.pinned (OpenSpec.upto figureDecaysSpec)

/-- 'shoeboxlaw05.FigureLevels', WHERE WHAT IT READS IS OF BULK AT MOST 1048576: true; the input reads as it did. -/
def figureLevelsUptoRow : OpenClaim := { program := "ytjhneebncpmneaagreatdoor", sum := "545589bea953cb292e204432d95845cba70eb7342290d6b8571fd6d59514b83d", func := "shoebox/shoeboxlaw05.FigureLevels", spec := "figureLevels", inPlace := ["math.archTrunc", "math.Float64bits", "math.Float64frombits", "internal/abi.NoEscape", "internal/bytealg.MakeNoZero"], unfollowed := true, recurses := true, named := ["shoebox/figure.slopes", "shoebox/figure.tenths", "shoebox/figure.turns", "math/bits.divideError", "math/bits.overflowError", "internal/strconv.uint64pow10", "math/bits.deBruijn32tab", "math/bits.deBruijn64tab"], apart := false, laid := [("math/bits.deBruijn32tab", laid_math_bits_deBruijn32tab), ("math/bits.deBruijn64tab", laid_math_bits_deBruijn64tab), ("internal/strconv.uint64pow10", laid_internal_strconv_uint64pow10), ("shoebox/figure.slopes", laid_shoebox_figure_slopes), ("shoebox/figure.tenths", laid_shoebox_figure_tenths), ("shoebox/figure.turns", laid_shoebox_figure_turns)], narrowed := true }
def FigureLevelsUptoSaid : Prop := figureLevelsUptoRow.holds Tryz.pinned (OpenSpec.upto figureLevelsSpec)

/-- 'shoeboxlaw05.FigureClarity', WHERE WHAT IT READS IS OF BULK AT MOST 1048576: true; the input reads as it did. -/
def figureClarityUptoRow : OpenClaim := { program := "ytjhneebncpmneaagreatdoor", sum := "545589bea953cb292e204432d95845cba70eb7342290d6b8571fd6d59514b83d", func := "shoebox/shoeboxlaw05.FigureClarity", spec := "figureClarity", inPlace := ["math.archTrunc", "math.Float64bits", "math.Float64frombits", "internal/abi.NoEscape", "internal/bytealg.MakeNoZero"], unfollowed := true, recurses := true, named := ["shoebox/figure.slopes", "shoebox/figure.tenths", "shoebox/figure.turns", "math/bits.divideError", "math/bits.overflowError", "internal/strconv.uint64pow10", "math/bits.deBruijn32tab", "math/bits.deBruijn64tab"], apart := false, laid := [("math/bits.deBruijn32tab", laid_math_bits_deBruijn32tab), ("math/bits.deBruijn64tab", laid_math_bits_deBruijn64tab), ("internal/strconv.uint64pow10", laid_internal_strconv_uint64pow10), ("shoebox/figure.slopes", laid_shoebox_figure_slopes), ("shoebox/figure.tenths", laid_shoebox_figure_tenths), ("shoebox/figure.turns", laid_shoebox_figure_turns)], narrowed := true }
def FigureClarityUptoSaid : Prop := figureClarityUptoRow.holds Tryz.pinned (OpenSpec.upto figureClaritySpec)

/-- 'shoeboxlaw05.FigureDefinitions', WHERE WHAT IT READS IS OF BULK AT MOST 1048576: true; the input reads as it did. -/
def figureDefinitionsUptoRow : OpenClaim := { program := "ytjhneebncpmneaagreatdoor", sum := "545589bea953cb292e204432d95845cba70eb7342290d6b8571fd6d59514b83d", func := "shoebox/shoeboxlaw05.FigureDefinitions", spec := "figureDefinitions", inPlace := ["math.archTrunc", "math.Float64bits", "math.Float64frombits", "internal/abi.NoEscape", "internal/bytealg.MakeNoZero"], unfollowed := true, recurses := true, named := ["shoebox/figure.slopes", "shoebox/figure.tenths", "shoebox/figure.turns", "math/bits.divideError", "math/bits.overflowError", "internal/strconv.uint64pow10", "math/bits.deBruijn32tab", "math/bits.deBruijn64tab"], apart := false, laid := [("math/bits.deBruijn32tab", laid_math_bits_deBruijn32tab), ("math/bits.deBruijn64tab", laid_math_bits_deBruijn64tab), ("internal/strconv.uint64pow10", laid_internal_strconv_uint64pow10), ("shoebox/figure.slopes", laid_shoebox_figure_slopes), ("shoebox/figure.tenths", laid_shoebox_figure_tenths), ("shoebox/figure.turns", laid_shoebox_figure_turns)], narrowed := true }
def FigureDefinitionsUptoSaid : Prop := figureDefinitionsUptoRow.holds Tryz.pinned (OpenSpec.upto figureDefinitionsSpec)

/-- 'shoeboxlaw05.FigureModulates', WHERE WHAT IT READS IS OF BULK AT MOST 1048576: true; the input reads as it did. -/
def figureModulatesUptoRow : OpenClaim := { program := "ytjhneebncpmneaagreatdoor", sum := "545589bea953cb292e204432d95845cba70eb7342290d6b8571fd6d59514b83d", func := "shoebox/shoeboxlaw05.FigureModulates", spec := "figureModulates", inPlace := ["math.archTrunc", "math.Float64bits", "math.Float64frombits", "internal/abi.NoEscape", "internal/bytealg.MakeNoZero"], unfollowed := true, recurses := true, named := ["shoebox/figure.slopes", "shoebox/figure.tenths", "shoebox/figure.turns", "math/bits.divideError", "math/bits.overflowError", "internal/strconv.uint64pow10", "math/bits.deBruijn32tab", "math/bits.deBruijn64tab"], apart := false, laid := [("math/bits.deBruijn32tab", laid_math_bits_deBruijn32tab), ("math/bits.deBruijn64tab", laid_math_bits_deBruijn64tab), ("internal/strconv.uint64pow10", laid_internal_strconv_uint64pow10), ("shoebox/figure.slopes", laid_shoebox_figure_slopes), ("shoebox/figure.tenths", laid_shoebox_figure_tenths), ("shoebox/figure.turns", laid_shoebox_figure_turns)], narrowed := true }
def FigureModulatesUptoSaid : Prop := figureModulatesUptoRow.holds Tryz.pinned (OpenSpec.upto figureModulatesSpec)

/-- 'shoeboxlaw05.FigureSheets', WHERE WHAT IT READS IS OF BULK AT MOST 1048576: true; the input reads as it did. -/
def figureSheetsUptoRow : OpenClaim := { program := "ytjhneebncpmneaagreatdoor", sum := "545589bea953cb292e204432d95845cba70eb7342290d6b8571fd6d59514b83d", func := "shoebox/shoeboxlaw05.FigureSheets", spec := "figureSheets", inPlace := ["math.archTrunc", "math.Float64bits", "math.Float64frombits", "internal/abi.NoEscape", "internal/bytealg.MakeNoZero", "internal/bytealg.CountString", "internal/bytealg.IndexByteString", "internal/bytealg.IndexString"], unfollowed := true, recurses := true, named := ["shoebox/figure.slopes", "shoebox/figure.tenths", "shoebox/figure.turns", "math/bits.divideError", "math/bits.overflowError", "internal/strconv.uint64pow10", "math/bits.deBruijn32tab", "math/bits.deBruijn64tab", "unicode/utf8.first", "unicode/utf8.acceptRanges", "internal/bytealg.MaxLen", "strconv.ErrSyntax", "strconv.ErrRange"], apart := false, laid := [("math/bits.deBruijn32tab", laid_math_bits_deBruijn32tab), ("math/bits.deBruijn64tab", laid_math_bits_deBruijn64tab), ("internal/strconv.uint64pow10", laid_internal_strconv_uint64pow10), ("unicode/utf8.acceptRanges", laid_unicode_utf8_acceptRanges), ("strconv.ErrRange", laid_strconv_ErrRange), ("strconv.ErrSyntax", laid_strconv_ErrSyntax), ("shoebox/figure.slopes", laid_shoebox_figure_slopes), ("shoebox/figure.tenths", laid_shoebox_figure_tenths), ("shoebox/figure.turns", laid_shoebox_figure_turns), ("unicode/utf8.first", laid_unicode_utf8_first)], narrowed := true }
def FigureSheetsUptoSaid : Prop := figureSheetsUptoRow.holds Tryz.pinned (OpenSpec.upto figureSheetsSpec)

/-- 'shoeboxlaw05.FigureCompares', WHERE WHAT IT READS IS OF BULK AT MOST 1048576: true; the input reads as it did. -/
def figureComparesUptoRow : OpenClaim := { program := "ytjhneebncpmneaagreatdoor", sum := "545589bea953cb292e204432d95845cba70eb7342290d6b8571fd6d59514b83d", func := "shoebox/shoeboxlaw05.FigureCompares", spec := "figureCompares", inPlace := ["math.archTrunc", "math.Float64bits", "math.Float64frombits", "internal/abi.NoEscape", "internal/bytealg.MakeNoZero"], unfollowed := true, recurses := true, named := ["shoebox/figure.slopes", "shoebox/figure.tenths", "shoebox/figure.turns", "math/bits.divideError", "math/bits.overflowError", "internal/strconv.uint64pow10", "math/bits.deBruijn32tab", "math/bits.deBruijn64tab"], apart := false, laid := [("math/bits.deBruijn32tab", laid_math_bits_deBruijn32tab), ("math/bits.deBruijn64tab", laid_math_bits_deBruijn64tab), ("internal/strconv.uint64pow10", laid_internal_strconv_uint64pow10), ("shoebox/figure.slopes", laid_shoebox_figure_slopes), ("shoebox/figure.tenths", laid_shoebox_figure_tenths), ("shoebox/figure.turns", laid_shoebox_figure_turns)], narrowed := true }
def FigureComparesUptoSaid : Prop := figureComparesUptoRow.holds Tryz.pinned (OpenSpec.upto figureComparesSpec)

/-- 'shoeboxlaw05.FigureWithin', WHERE WHAT IT READS IS OF BULK AT MOST 1048576: true; the input reads as it did. -/
def figureWithinUptoRow : OpenClaim := { program := "ytjhneebncpmneaagreatdoor", sum := "545589bea953cb292e204432d95845cba70eb7342290d6b8571fd6d59514b83d", func := "shoebox/shoeboxlaw05.FigureWithin", spec := "figureWithin", inPlace := ["math.archTrunc", "math.Float64bits", "math.Float64frombits", "internal/abi.NoEscape", "internal/bytealg.MakeNoZero"], unfollowed := true, recurses := true, named := ["shoebox/figure.slopes", "shoebox/figure.tenths", "shoebox/figure.turns", "math/bits.divideError", "math/bits.overflowError", "internal/strconv.uint64pow10", "math/bits.deBruijn32tab", "math/bits.deBruijn64tab"], apart := false, laid := [("math/bits.deBruijn32tab", laid_math_bits_deBruijn32tab), ("math/bits.deBruijn64tab", laid_math_bits_deBruijn64tab), ("internal/strconv.uint64pow10", laid_internal_strconv_uint64pow10), ("shoebox/figure.slopes", laid_shoebox_figure_slopes), ("shoebox/figure.tenths", laid_shoebox_figure_tenths), ("shoebox/figure.turns", laid_shoebox_figure_turns)], narrowed := true }
def FigureWithinUptoSaid : Prop := figureWithinUptoRow.holds Tryz.pinned (OpenSpec.upto figureWithinSpec)

/-- 'shoeboxlaw05.FigureScales', WHERE WHAT IT READS IS OF BULK AT MOST 1048576: true; the input reads as it did. -/
def figureScalesUptoRow : OpenClaim := { program := "ytjhneebncpmneaagreatdoor", sum := "545589bea953cb292e204432d95845cba70eb7342290d6b8571fd6d59514b83d", func := "shoebox/shoeboxlaw05.FigureScales", spec := "figureScales", inPlace := ["math.archTrunc", "math.Float64bits", "math.Float64frombits", "internal/abi.NoEscape", "internal/bytealg.MakeNoZero"], unfollowed := true, recurses := true, named := ["shoebox/figure.slopes", "shoebox/figure.tenths", "shoebox/figure.turns", "math/bits.divideError", "math/bits.overflowError", "internal/strconv.uint64pow10", "math/bits.deBruijn32tab", "math/bits.deBruijn64tab"], apart := false, laid := [("math/bits.deBruijn32tab", laid_math_bits_deBruijn32tab), ("math/bits.deBruijn64tab", laid_math_bits_deBruijn64tab), ("internal/strconv.uint64pow10", laid_internal_strconv_uint64pow10), ("shoebox/figure.slopes", laid_shoebox_figure_slopes), ("shoebox/figure.tenths", laid_shoebox_figure_tenths), ("shoebox/figure.turns", laid_shoebox_figure_turns)], narrowed := true }
def FigureScalesUptoSaid : Prop := figureScalesUptoRow.holds Tryz.pinned (OpenSpec.upto figureScalesSpec)

end Rows
end Go.Proofs.YtjhneebncpmneaaGreatDoor
