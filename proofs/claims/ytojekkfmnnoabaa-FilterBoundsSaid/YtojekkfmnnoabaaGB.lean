/- Facts on types and functions of the program. -/
import Derived.Test.YtojekkfmnnoabaaS
import Derived.Test.YtojekkfmnnoabaaProg
set_option linter.unusedSimpArgs false
set_option linter.unusedVariables false
set_option linter.defProp false
namespace Go.Rex
open Go.Proofs
open Go Go.Rex Go.RowKit
set_option maxRecDepth 100000
theorem ag139 : aggB Try.prog 139 = some true := by kernel_rfl
theorem ag26 : aggB Try.prog 26 = some true := by kernel_rfl
theorem ag29 : aggB Try.prog 29 = some false := by kernel_rfl
theorem ag3 : aggB Try.prog 3 = some false := by kernel_rfl
theorem ar139 : arrayOf Try.prog 139 = some (5, 3) := by kernel_rfl
theorem ar23 : arrayOf Try.prog 23 = some (3, 3) := by kernel_rfl
theorem ar24 : arrayOf Try.prog 24 = some (2, 3) := by kernel_rfl
theorem by26 : bytesT Try.prog 26 = 40 := by kernel_rfl
theorem cs139 : Try.prog.cellsOf 139 = 5 := by kernel_rfl
theorem cs26 : Try.prog.cellsOf 26 = 5 := by kernel_rfl
theorem cs29 : Try.prog.cellsOf 29 = 1 := by kernel_rfl
theorem cs3 : Try.prog.cellsOf 3 = 1 := by kernel_rfl
theorem fd26_0 : fieldT Try.prog 26 0 = some (0, 23) := by kernel_rfl
theorem fd26_1 : fieldT Try.prog 26 1 = some (3, 24) := by kernel_rfl
theorem ni22 : notInt Try.prog (some 22) = true := by kernel_rfl
theorem ok139 : okT Try.prog 139 = true := by kernel_rfl
theorem ok26 : okT Try.prog 26 = true := by kernel_rfl
theorem ok29 : okT Try.prog 29 = true := by kernel_rfl
theorem ok3 : okT Try.prog 3 = true := by kernel_rfl
theorem so181 : sliceOf Try.prog 181 = some 29 := by kernel_rfl
theorem so22 : sliceOf Try.prog 22 = some 26 := by kernel_rfl
theorem so23 : sliceOf Try.prog 23 = none := by kernel_rfl
theorem so24 : sliceOf Try.prog 24 = none := by kernel_rfl
theorem so49 : sliceOf Try.prog 49 = some 3 := by kernel_rfl
theorem st139 : structT Try.prog 139 = none := by kernel_rfl
theorem wi64_1 : IntKind.i64.wrap 1 = 1 := by decide
theorem zc139 : zeroC Try.prog 139 = some [.int .i64 0, .int .i64 0, .int .i64 0, .int .i64 0, .int .i64 0] := by kernel_rfl
theorem zc26 : zeroC Try.prog 26 = some [.int .i64 0, .int .i64 0, .int .i64 0, .int .i64 0, .int .i64 0] := by kernel_rfl
theorem zc29 : zeroC Try.prog 29 = some [.int .i64 0] := by kernel_rfl
theorem zc3 : zeroC Try.prog 3 = some [.int .i64 0] := by kernel_rfl
theorem goFn15 : goFn Try.prog 15 = true := by kernel_rfl
theorem goFn16 : goFn Try.prog 16 = true := by kernel_rfl
theorem goFn17 : goFn Try.prog 17 = true := by kernel_rfl
theorem goFn18 : goFn Try.prog 18 = true := by kernel_rfl
theorem goFn20 : goFn Try.prog 20 = true := by kernel_rfl
theorem goFn24 : goFn Try.prog 24 = true := by kernel_rfl
theorem goFn25 : goFn Try.prog 25 = true := by kernel_rfl
theorem goFn28 : goFn Try.prog 28 = true := by kernel_rfl
theorem goFn41 : goFn Try.prog 41 = true := by kernel_rfl
theorem goFn42 : goFn Try.prog 42 = true := by kernel_rfl
theorem goFn43 : goFn Try.prog 43 = true := by kernel_rfl
theorem goFn44 : goFn Try.prog 44 = true := by kernel_rfl
theorem goFn54 : goFn Try.prog 54 = true := by kernel_rfl
theorem goFn72 : goFn Try.prog 72 = true := by kernel_rfl
theorem goFn74 : goFn Try.prog 74 = true := by kernel_rfl
theorem goFn75 : goFn Try.prog 75 = true := by kernel_rfl
theorem goFn77 : goFn Try.prog 77 = true := by kernel_rfl
theorem goFn78 : goFn Try.prog 78 = true := by kernel_rfl
theorem goFn82 : goFn Try.prog 82 = true := by kernel_rfl
theorem goFn85 : goFn Try.prog 85 = true := by kernel_rfl
theorem goFn86 : goFn Try.prog 86 = true := by kernel_rfl
theorem goFn87 : goFn Try.prog 87 = true := by kernel_rfl
theorem goFn88 : goFn Try.prog 88 = true := by kernel_rfl
theorem goFn113 : goFn Try.prog 113 = true := by kernel_rfl
theorem goFn115 : goFn Try.prog 115 = true := by kernel_rfl

end Go.Rex
