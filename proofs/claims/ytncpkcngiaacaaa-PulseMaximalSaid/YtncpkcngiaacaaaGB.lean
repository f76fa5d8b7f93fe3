/- Facts on types and functions of the program. -/
import Derived.Test.YtncpkcngiaacaaaS
import Derived.Test.YtncpkcngiaacaaaProg
set_option linter.unusedSimpArgs false
set_option linter.unusedVariables false
set_option linter.defProp false
namespace Go.Rex
open Go.Proofs
open Go Go.Rex Go.RowKit
set_option maxRecDepth 100000
theorem ag102 : aggB Try.prog 102 = some true := by kernel_rfl
theorem ag105 : aggB Try.prog 105 = some false := by kernel_rfl
theorem ag142 : aggB Try.prog 142 = some false := by kernel_rfl
theorem ag22 : aggB Try.prog 22 = some false := by kernel_rfl
theorem ag24 : aggB Try.prog 24 = some true := by kernel_rfl
theorem ag26 : aggB Try.prog 26 = some false := by kernel_rfl
theorem ag3 : aggB Try.prog 3 = some false := by kernel_rfl
theorem ag4 : aggB Try.prog 4 = some false := by kernel_rfl
theorem by3 : bytesT Try.prog 3 = 8 := by kernel_rfl
theorem cs102 : Try.prog.cellsOf 102 = 2 := by kernel_rfl
theorem cs105 : Try.prog.cellsOf 105 = 1 := by kernel_rfl
theorem cs22 : Try.prog.cellsOf 22 = 1 := by kernel_rfl
theorem cs24 : Try.prog.cellsOf 24 = 2 := by kernel_rfl
theorem cs3 : Try.prog.cellsOf 3 = 1 := by kernel_rfl
theorem fd102_0 : fieldT Try.prog 102 0 = some (0, 24) := by kernel_rfl
theorem fd24_0 : fieldT Try.prog 24 0 = some (0, 3) := by kernel_rfl
theorem fd24_1 : fieldT Try.prog 24 1 = some (1, 22) := by kernel_rfl
theorem ni22 : notInt Try.prog (some 22) = true := by kernel_rfl
theorem ok102 : okT Try.prog 102 = true := by kernel_rfl
theorem ok105 : okT Try.prog 105 = true := by kernel_rfl
theorem ok22 : okT Try.prog 22 = true := by kernel_rfl
theorem ok24 : okT Try.prog 24 = true := by kernel_rfl
theorem ok3 : okT Try.prog 3 = true := by kernel_rfl
theorem so149 : sliceOf Try.prog 149 = some 105 := by kernel_rfl
theorem so22 : sliceOf Try.prog 22 = some 3 := by kernel_rfl
theorem st102 : structT Try.prog 102 = some [(0, 2)] := by kernel_rfl
theorem st24 : structT Try.prog 24 = some [(0, 1), (1, 1)] := by kernel_rfl
theorem ub4 : Try.prog.underlying 4 = some .bool := by kernel_rfl
theorem wi64_0a1 : IntKind.i64.wrap (0 + 1) = 1 := by decide
theorem wi64_1a1 : IntKind.i64.wrap (1 + 1) = 2 := by decide
theorem wi64_2a1 : IntKind.i64.wrap (2 + 1) = 3 := by decide
theorem wi64_2m0 : IntKind.i64.wrap (2 * 0) = 0 := by decide
theorem wi64_2m1 : IntKind.i64.wrap (2 * 1) = 2 := by decide
theorem wi64_2m2 : IntKind.i64.wrap (2 * 2) = 4 := by decide
theorem wi64_3a1 : IntKind.i64.wrap (3 + 1) = 4 := by decide
theorem zc102 : zeroC Try.prog 102 = some [.int .i64 0, .slice none 0 0] := by kernel_rfl
theorem zc105 : zeroC Try.prog 105 = some [.nilFunc] := by kernel_rfl
theorem zc24 : zeroC Try.prog 24 = some [.int .i64 0, .slice none 0 0] := by kernel_rfl
theorem zc3 : zeroC Try.prog 3 = some [.int .i64 0] := by kernel_rfl
theorem goFn11 : goFn Try.prog 11 = true := by kernel_rfl
theorem goFn13 : goFn Try.prog 13 = true := by kernel_rfl
theorem goFn15 : goFn Try.prog 15 = true := by kernel_rfl
theorem goFn16 : goFn Try.prog 16 = true := by kernel_rfl
theorem goFn18 : goFn Try.prog 18 = true := by kernel_rfl
theorem goFn19 : goFn Try.prog 19 = true := by kernel_rfl
theorem goFn20 : goFn Try.prog 20 = true := by kernel_rfl
theorem goFn21 : goFn Try.prog 21 = true := by kernel_rfl
theorem goFn26 : goFn Try.prog 26 = true := by kernel_rfl
theorem goFn27 : goFn Try.prog 27 = true := by kernel_rfl
theorem goFn28 : goFn Try.prog 28 = true := by kernel_rfl
theorem goFn29 : goFn Try.prog 29 = true := by kernel_rfl
theorem goFn30 : goFn Try.prog 30 = true := by kernel_rfl
theorem goFn31 : goFn Try.prog 31 = true := by kernel_rfl
theorem goFn32 : goFn Try.prog 32 = true := by kernel_rfl
theorem goFn33 : goFn Try.prog 33 = true := by kernel_rfl
theorem goFn34 : goFn Try.prog 34 = true := by kernel_rfl
theorem goFn35 : goFn Try.prog 35 = true := by kernel_rfl
theorem goFn58 : goFn Try.prog 58 = true := by kernel_rfl
theorem goFn59 : goFn Try.prog 59 = true := by kernel_rfl
theorem goFn61 : goFn Try.prog 61 = true := by kernel_rfl
theorem goFn63 : goFn Try.prog 63 = true := by kernel_rfl
theorem goFn64 : goFn Try.prog 64 = true := by kernel_rfl
theorem goFn65 : goFn Try.prog 65 = true := by kernel_rfl
theorem goFn66 : goFn Try.prog 66 = true := by kernel_rfl
theorem goFn67 : goFn Try.prog 67 = true := by kernel_rfl
theorem goFn68 : goFn Try.prog 68 = true := by kernel_rfl
theorem goFn70 : goFn Try.prog 70 = true := by kernel_rfl
theorem goFn71 : goFn Try.prog 71 = true := by kernel_rfl
theorem goFn72 : goFn Try.prog 72 = true := by kernel_rfl
theorem goFn73 : goFn Try.prog 73 = true := by kernel_rfl
theorem goFn74 : goFn Try.prog 74 = true := by kernel_rfl
theorem goFn75 : goFn Try.prog 75 = true := by kernel_rfl
theorem goFn76 : goFn Try.prog 76 = true := by kernel_rfl
theorem goFn101 : goFn Try.prog 101 = true := by kernel_rfl
theorem goFn115 : goFn Try.prog 115 = true := by kernel_rfl
theorem goFn116 : goFn Try.prog 116 = true := by kernel_rfl
theorem goFn117 : goFn Try.prog 117 = true := by kernel_rfl
theorem goFn118 : goFn Try.prog 118 = true := by kernel_rfl
theorem goFn119 : goFn Try.prog 119 = true := by kernel_rfl
theorem goFn120 : goFn Try.prog 120 = true := by kernel_rfl
theorem goFn121 : goFn Try.prog 121 = true := by kernel_rfl
theorem goFn133 : goFn Try.prog 133 = true := by kernel_rfl
theorem goFn141 : goFn Try.prog 141 = true := by kernel_rfl
def zn := And.intro Bool.not_true Bool.not_false
def zp.{u} := @List.getElem?_toArray.{u}
def zs.{u, v} := @Option.bind_some.{u, v}
def zl.{u} := @List.toList_toArray.{u}

end Go.Rex
