/- Facts on types and functions of the program. -/
import Derived.Test.YtjlembaicmibhaaS
import Derived.Test.YtjlembaicmibhaaProg
set_option linter.unusedSimpArgs false
set_option linter.unusedVariables false
set_option linter.defProp false
namespace Go.Rex
open Go.Proofs
open Go Go.Rex Go.RowKit
set_option maxRecDepth 100000
theorem ag125 : aggB Try.prog 125 = some false := by kernel_rfl
theorem ag141 : aggB Try.prog 141 = some true := by kernel_rfl
theorem ag22 : aggB Try.prog 22 = some false := by kernel_rfl
theorem ag24 : aggB Try.prog 24 = some true := by kernel_rfl
theorem ag3 : aggB Try.prog 3 = some false := by kernel_rfl
theorem ag31 : aggB Try.prog 31 = some false := by kernel_rfl
theorem ag4 : aggB Try.prog 4 = some false := by kernel_rfl
theorem ag59 : aggB Try.prog 59 = some false := by kernel_rfl
theorem ag61 : aggB Try.prog 61 = some true := by kernel_rfl
theorem ag74 : aggB Try.prog 74 = some false := by kernel_rfl
theorem ag86 : aggB Try.prog 86 = some true := by kernel_rfl
theorem ag94 : aggB Try.prog 94 = some false := by kernel_rfl
theorem by141 : bytesT Try.prog 141 = 16 := by kernel_rfl
theorem by22 : bytesT Try.prog 22 = 24 := by kernel_rfl
theorem by24 : bytesT Try.prog 24 = 32 := by kernel_rfl
theorem by3 : bytesT Try.prog 3 = 8 := by kernel_rfl
theorem by74 : bytesT Try.prog 74 = 24 := by kernel_rfl
theorem cs141 : Try.prog.cellsOf 141 = 2 := by kernel_rfl
theorem cs22 : Try.prog.cellsOf 22 = 1 := by kernel_rfl
theorem cs24 : Try.prog.cellsOf 24 = 2 := by kernel_rfl
theorem cs3 : Try.prog.cellsOf 3 = 1 := by kernel_rfl
theorem cs59 : Try.prog.cellsOf 59 = 1 := by kernel_rfl
theorem cs61 : Try.prog.cellsOf 61 = 1 := by kernel_rfl
theorem cs74 : Try.prog.cellsOf 74 = 1 := by kernel_rfl
theorem cs86 : Try.prog.cellsOf 86 = 2 := by kernel_rfl
theorem cs94 : Try.prog.cellsOf 94 = 1 := by kernel_rfl
theorem fd141_0 : fieldT Try.prog 141 0 = some (0, 3) := by kernel_rfl
theorem fd141_1 : fieldT Try.prog 141 1 = some (1, 3) := by kernel_rfl
theorem fd24_0 : fieldT Try.prog 24 0 = some (0, 22) := by kernel_rfl
theorem fd24_1 : fieldT Try.prog 24 1 = some (1, 3) := by kernel_rfl
theorem fd61_0 : fieldT Try.prog 61 0 = some (0, 59) := by kernel_rfl
theorem fd86_0 : fieldT Try.prog 86 0 = some (0, 24) := by kernel_rfl
theorem ni22 : notInt Try.prog (some 22) = true := by kernel_rfl
theorem ni59 : notInt Try.prog (some 59) = true := by kernel_rfl
theorem ni73 : notInt Try.prog (some 73) = true := by kernel_rfl
theorem ni74 : notInt Try.prog (some 74) = true := by kernel_rfl
theorem ok141 : okT Try.prog 141 = true := by kernel_rfl
theorem ok22 : okT Try.prog 22 = true := by kernel_rfl
theorem ok24 : okT Try.prog 24 = true := by kernel_rfl
theorem ok3 : okT Try.prog 3 = true := by kernel_rfl
theorem ok59 : okT Try.prog 59 = true := by kernel_rfl
theorem ok61 : okT Try.prog 61 = true := by kernel_rfl
theorem ok74 : okT Try.prog 74 = true := by kernel_rfl
theorem ok86 : okT Try.prog 86 = true := by kernel_rfl
theorem ok94 : okT Try.prog 94 = true := by kernel_rfl
theorem so122 : sliceOf Try.prog 122 = some 94 := by kernel_rfl
theorem so22 : sliceOf Try.prog 22 = some 3 := by kernel_rfl
theorem so59 : sliceOf Try.prog 59 = some 22 := by kernel_rfl
theorem so73 : sliceOf Try.prog 73 = some 74 := by kernel_rfl
theorem so74 : sliceOf Try.prog 74 = some 24 := by kernel_rfl
theorem so88 : sliceOf Try.prog 88 = some 141 := by kernel_rfl
theorem st141 : structT Try.prog 141 = some [(0, 1), (1, 1)] := by kernel_rfl
theorem st61 : structT Try.prog 61 = some [(0, 1)] := by kernel_rfl
theorem st86 : structT Try.prog 86 = some [(0, 2)] := by kernel_rfl
theorem un153 : Try.prog.underlying 153 = some (.int .u64) := by kernel_rfl
theorem un157 : Try.prog.underlying 157 = some (.int .u64) := by kernel_rfl
theorem un3 : Try.prog.underlying 3 = some (.int .i64) := by kernel_rfl
theorem un5 : Try.prog.underlying 5 = some (.int .u8) := by kernel_rfl
theorem us9 : Try.prog.underlying 9 = some .string := by kernel_rfl
theorem wi64_0a1 : IntKind.i64.wrap (0 + 1) = 1 := by decide
theorem wi64_0a16 : IntKind.i64.wrap (0 + 16) = 16 := by decide
theorem wi64_0a8 : IntKind.i64.wrap (0 + 8) = 8 := by decide
theorem wi64_16a8 : IntKind.i64.wrap (16 + 8) = 24 := by decide
theorem wi64_1a1 : IntKind.i64.wrap (1 + 1) = 2 := by decide
theorem wi64_256a256 : IntKind.i64.wrap (256 + 256) = 512 := by decide
theorem wi64_256a512 : IntKind.i64.wrap (256 + 512) = 768 := by decide
theorem wi64_256s256 : IntKind.i64.wrap (256 - 256) = 0 := by decide
theorem wi64_2a1 : IntKind.i64.wrap (2 + 1) = 3 := by decide
theorem wi64_2m256 : IntKind.i64.wrap (2 * 256) = 512 := by decide
theorem wi64_32a16 : IntKind.i64.wrap (32 + 16) = 48 := by decide
theorem wi64_32a8 : IntKind.i64.wrap (32 + 8) = 40 := by decide
theorem wi64_3a1 : IntKind.i64.wrap (3 + 1) = 4 := by decide
theorem wi64_48a8 : IntKind.i64.wrap (48 + 8) = 56 := by decide
theorem zc141 : zeroC Try.prog 141 = some [.int .i64 0, .int .i64 0] := by kernel_rfl
theorem zc22 : zeroC Try.prog 22 = some [.slice none 0 0] := by kernel_rfl
theorem zc24 : zeroC Try.prog 24 = some [.slice none 0 0, .int .i64 0] := by kernel_rfl
theorem zc3 : zeroC Try.prog 3 = some [.int .i64 0] := by kernel_rfl
theorem zc61 : zeroC Try.prog 61 = some [.slice none 0 0] := by kernel_rfl
theorem zc74 : zeroC Try.prog 74 = some [.slice none 0 0] := by kernel_rfl
theorem zc86 : zeroC Try.prog 86 = some [.slice none 0 0, .int .i64 0] := by kernel_rfl
theorem zc94 : zeroC Try.prog 94 = some [.nilFunc] := by kernel_rfl
theorem goFn9 : goFn Try.prog 9 = true := by kernel_rfl
theorem goFn10 : goFn Try.prog 10 = true := by kernel_rfl
theorem goFn12 : goFn Try.prog 12 = true := by kernel_rfl
theorem goFn16 : goFn Try.prog 16 = true := by kernel_rfl
theorem goFn20 : goFn Try.prog 20 = true := by kernel_rfl
theorem goFn28 : goFn Try.prog 28 = true := by kernel_rfl
theorem goFn29 : goFn Try.prog 29 = true := by kernel_rfl
theorem goFn39 : goFn Try.prog 39 = true := by kernel_rfl
theorem goFn40 : goFn Try.prog 40 = true := by kernel_rfl
theorem goFn41 : goFn Try.prog 41 = true := by kernel_rfl
theorem goFn42 : goFn Try.prog 42 = true := by kernel_rfl
theorem goFn46 : goFn Try.prog 46 = true := by kernel_rfl
theorem goFn48 : goFn Try.prog 48 = true := by kernel_rfl
theorem goFn49 : goFn Try.prog 49 = true := by kernel_rfl
theorem goFn50 : goFn Try.prog 50 = true := by kernel_rfl
theorem goFn52 : goFn Try.prog 52 = true := by kernel_rfl
theorem goFn55 : goFn Try.prog 55 = true := by kernel_rfl
theorem goFn65 : goFn Try.prog 65 = true := by kernel_rfl
theorem goFn73 : goFn Try.prog 73 = true := by kernel_rfl
theorem goFn74 : goFn Try.prog 74 = true := by kernel_rfl
theorem goFn79 : goFn Try.prog 79 = true := by kernel_rfl
theorem goFn80 : goFn Try.prog 80 = true := by kernel_rfl
theorem goFn82 : goFn Try.prog 82 = true := by kernel_rfl
theorem goFn83 : goFn Try.prog 83 = true := by kernel_rfl
theorem goFn84 : goFn Try.prog 84 = true := by kernel_rfl
theorem goFn88 : goFn Try.prog 88 = true := by kernel_rfl
theorem goFn91 : goFn Try.prog 91 = true := by kernel_rfl
theorem goFn98 : goFn Try.prog 98 = true := by kernel_rfl
theorem goFn113 : goFn Try.prog 113 = true := by kernel_rfl
theorem goFn114 : goFn Try.prog 114 = true := by kernel_rfl
theorem goFn117 : goFn Try.prog 117 = true := by kernel_rfl
theorem goFn118 : goFn Try.prog 118 = true := by kernel_rfl
theorem goFn119 : goFn Try.prog 119 = true := by kernel_rfl
theorem goFn121 : goFn Try.prog 121 = true := by kernel_rfl
theorem goFn122 : goFn Try.prog 122 = true := by kernel_rfl
theorem goFn129 : goFn Try.prog 129 = true := by kernel_rfl
theorem goFn130 : goFn Try.prog 130 = true := by kernel_rfl
theorem goFn131 : goFn Try.prog 131 = true := by kernel_rfl
theorem goFn134 : goFn Try.prog 134 = true := by kernel_rfl
theorem goFn136 : goFn Try.prog 136 = true := by kernel_rfl
def zn := And.intro Bool.not_true Bool.not_false
def zp.{u} := @List.getElem?_toArray.{u}
def zs.{u, v} := @Option.bind_some.{u, v}
def zl.{u} := @List.toList_toArray.{u}

end Go.Rex
