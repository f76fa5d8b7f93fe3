/- Facts on types and functions of the program. -/
import Derived.Test.YtaaghggojhbpiaaS
import Derived.Test.YtaaghggojhbpiaaProg
set_option linter.unusedSimpArgs false
set_option linter.unusedVariables false
set_option linter.defProp false
namespace Go.Rex
open Go.Proofs
open Go Go.Rex Go.RowKit
set_option maxRecDepth 100000
theorem ag29 : aggB Try.prog 29 = some true := by kernel_rfl
theorem ag3 : aggB Try.prog 3 = some false := by kernel_rfl
theorem ag31 : aggB Try.prog 31 = some true := by kernel_rfl
theorem ag32 : aggB Try.prog 32 = some false := by kernel_rfl
theorem ag43 : aggB Try.prog 43 = some true := by kernel_rfl
theorem ag45 : aggB Try.prog 45 = some true := by kernel_rfl
theorem ag49 : aggB Try.prog 49 = some true := by kernel_rfl
theorem ag66 : aggB Try.prog 66 = some true := by kernel_rfl
theorem ag79 : aggB Try.prog 79 = some true := by kernel_rfl
theorem ag93 : aggB Try.prog 93 = some false := by kernel_rfl
theorem ag95 : aggB Try.prog 95 = some true := by kernel_rfl
theorem ar22 : arrayOf Try.prog 22 = some (2, 3) := by kernel_rfl
theorem ar29 : arrayOf Try.prog 29 = some (3, 3) := by kernel_rfl
theorem ar79 : arrayOf Try.prog 79 = some (5, 3) := by kernel_rfl
theorem cs29 : Try.prog.cellsOf 29 = 3 := by kernel_rfl
theorem cs3 : Try.prog.cellsOf 3 = 1 := by kernel_rfl
theorem cs31 : Try.prog.cellsOf 31 = 5 := by kernel_rfl
theorem cs32 : Try.prog.cellsOf 32 = 1 := by kernel_rfl
theorem cs43 : Try.prog.cellsOf 43 = 3 := by kernel_rfl
theorem cs45 : Try.prog.cellsOf 45 = 2 := by kernel_rfl
theorem cs49 : Try.prog.cellsOf 49 = 2 := by kernel_rfl
theorem cs66 : Try.prog.cellsOf 66 = 2 := by kernel_rfl
theorem cs79 : Try.prog.cellsOf 79 = 5 := by kernel_rfl
theorem cs95 : Try.prog.cellsOf 95 = 2 := by kernel_rfl
theorem fd31_0 : fieldT Try.prog 31 0 = some (0, 29) := by kernel_rfl
theorem fd31_1 : fieldT Try.prog 31 1 = some (3, 22) := by kernel_rfl
theorem fd43_0 : fieldT Try.prog 43 0 = some (0, 3) := by kernel_rfl
theorem fd43_1 : fieldT Try.prog 43 1 = some (1, 3) := by kernel_rfl
theorem fd43_2 : fieldT Try.prog 43 2 = some (2, 3) := by kernel_rfl
theorem fd45_0 : fieldT Try.prog 45 0 = some (0, 3) := by kernel_rfl
theorem fd45_1 : fieldT Try.prog 45 1 = some (1, 3) := by kernel_rfl
theorem fd49_0 : fieldT Try.prog 49 0 = some (0, 3) := by kernel_rfl
theorem fd49_1 : fieldT Try.prog 49 1 = some (1, 3) := by kernel_rfl
theorem fd66_0 : fieldT Try.prog 66 0 = some (0, 3) := by kernel_rfl
theorem fd66_1 : fieldT Try.prog 66 1 = some (1, 3) := by kernel_rfl
theorem fd95_0 : fieldT Try.prog 95 0 = some (0, 93) := by kernel_rfl
theorem fd95_1 : fieldT Try.prog 95 1 = some (1, 93) := by kernel_rfl
theorem ok29 : okT Try.prog 29 = true := by kernel_rfl
theorem ok3 : okT Try.prog 3 = true := by kernel_rfl
theorem ok31 : okT Try.prog 31 = true := by kernel_rfl
theorem ok32 : okT Try.prog 32 = true := by kernel_rfl
theorem ok43 : okT Try.prog 43 = true := by kernel_rfl
theorem ok45 : okT Try.prog 45 = true := by kernel_rfl
theorem ok49 : okT Try.prog 49 = true := by kernel_rfl
theorem ok66 : okT Try.prog 66 = true := by kernel_rfl
theorem ok79 : okT Try.prog 79 = true := by kernel_rfl
theorem ok95 : okT Try.prog 95 = true := by kernel_rfl
theorem so22 : sliceOf Try.prog 22 = none := by kernel_rfl
theorem so25 : sliceOf Try.prog 25 = some 31 := by kernel_rfl
theorem so26 : sliceOf Try.prog 26 = some 3 := by kernel_rfl
theorem so29 : sliceOf Try.prog 29 = none := by kernel_rfl
theorem so83 : sliceOf Try.prog 83 = some 32 := by kernel_rfl
theorem st29 : structT Try.prog 29 = none := by kernel_rfl
theorem st45 : structT Try.prog 45 = some [(0, 1), (1, 1)] := by kernel_rfl
theorem st49 : structT Try.prog 49 = some [(0, 1), (1, 1)] := by kernel_rfl
theorem st66 : structT Try.prog 66 = some [(0, 1), (1, 1)] := by kernel_rfl
theorem st79 : structT Try.prog 79 = none := by kernel_rfl
theorem st95 : structT Try.prog 95 = some [(0, 1), (1, 1)] := by kernel_rfl
theorem un113 : Try.prog.underlying 113 = some (.int .u64) := by kernel_rfl
theorem un3 : Try.prog.underlying 3 = some (.int .i64) := by kernel_rfl
theorem un5 : Try.prog.underlying 5 = some (.int .u8) := by kernel_rfl
theorem un93 : Try.prog.underlying 93 = some (.int .u64) := by kernel_rfl
theorem us9 : Try.prog.underlying 9 = some .string := by kernel_rfl
theorem wi64_0a1 : IntKind.i64.wrap (0 + 1) = 1 := by decide
theorem wi64_0a16 : IntKind.i64.wrap (0 + 16) = 16 := by decide
theorem wi64_0a8 : IntKind.i64.wrap (0 + 8) = 8 := by decide
theorem wi64_16a8 : IntKind.i64.wrap (16 + 8) = 24 := by decide
theorem wi64_32a16 : IntKind.i64.wrap (32 + 16) = 48 := by decide
theorem wi64_32a8 : IntKind.i64.wrap (32 + 8) = 40 := by decide
theorem wi64_48a8 : IntKind.i64.wrap (48 + 8) = 56 := by decide
theorem zc29 : zeroC Try.prog 29 = some [.int .i64 0, .int .i64 0, .int .i64 0] := by kernel_rfl
theorem zc3 : zeroC Try.prog 3 = some [.int .i64 0] := by kernel_rfl
theorem zc31 : zeroC Try.prog 31 = some [.int .i64 0, .int .i64 0, .int .i64 0, .int .i64 0, .int .i64 0] := by kernel_rfl
theorem zc32 : zeroC Try.prog 32 = some [.int .i64 0] := by kernel_rfl
theorem zc45 : zeroC Try.prog 45 = some [.int .i64 0, .int .i64 0] := by kernel_rfl
theorem zc49 : zeroC Try.prog 49 = some [.int .i64 0, .int .i64 0] := by kernel_rfl
theorem zc66 : zeroC Try.prog 66 = some [.int .i64 0, .int .i64 0] := by kernel_rfl
theorem zc79 : zeroC Try.prog 79 = some [.int .i64 0, .int .i64 0, .int .i64 0, .int .i64 0, .int .i64 0] := by kernel_rfl
theorem zc95 : zeroC Try.prog 95 = some [.int .u64 0, .int .u64 0] := by kernel_rfl
theorem goFn5 : goFn Try.prog 5 = true := by kernel_rfl
theorem goFn12 : goFn Try.prog 12 = true := by kernel_rfl
theorem goFn13 : goFn Try.prog 13 = true := by kernel_rfl
theorem goFn14 : goFn Try.prog 14 = true := by kernel_rfl
theorem goFn18 : goFn Try.prog 18 = true := by kernel_rfl
theorem goFn21 : goFn Try.prog 21 = true := by kernel_rfl
theorem goFn23 : goFn Try.prog 23 = true := by kernel_rfl
theorem goFn24 : goFn Try.prog 24 = true := by kernel_rfl
theorem goFn25 : goFn Try.prog 25 = true := by kernel_rfl
theorem goFn26 : goFn Try.prog 26 = true := by kernel_rfl
theorem goFn27 : goFn Try.prog 27 = true := by kernel_rfl
theorem goFn28 : goFn Try.prog 28 = true := by kernel_rfl
theorem goFn29 : goFn Try.prog 29 = true := by kernel_rfl
theorem goFn30 : goFn Try.prog 30 = true := by kernel_rfl
theorem goFn33 : goFn Try.prog 33 = true := by kernel_rfl
theorem goFn34 : goFn Try.prog 34 = true := by kernel_rfl
theorem goFn35 : goFn Try.prog 35 = true := by kernel_rfl
theorem goFn36 : goFn Try.prog 36 = true := by kernel_rfl
theorem goFn37 : goFn Try.prog 37 = true := by kernel_rfl
theorem goFn38 : goFn Try.prog 38 = true := by kernel_rfl
theorem goFn39 : goFn Try.prog 39 = true := by kernel_rfl
theorem goFn40 : goFn Try.prog 40 = true := by kernel_rfl
theorem goFn41 : goFn Try.prog 41 = true := by kernel_rfl
theorem goFn42 : goFn Try.prog 42 = true := by kernel_rfl
theorem goFn45 : goFn Try.prog 45 = true := by kernel_rfl
theorem goFn46 : goFn Try.prog 46 = true := by kernel_rfl
theorem goFn47 : goFn Try.prog 47 = true := by kernel_rfl
theorem goFn50 : goFn Try.prog 50 = true := by kernel_rfl
theorem goFn51 : goFn Try.prog 51 = true := by kernel_rfl
theorem goFn52 : goFn Try.prog 52 = true := by kernel_rfl
theorem goFn53 : goFn Try.prog 53 = true := by kernel_rfl
theorem goFn55 : goFn Try.prog 55 = true := by kernel_rfl
theorem goFn56 : goFn Try.prog 56 = true := by kernel_rfl
theorem goFn57 : goFn Try.prog 57 = true := by kernel_rfl

end Go.Rex
