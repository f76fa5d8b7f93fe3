/- Facts on types and functions of the program. -/
import Derived.Test.YtaaghggojhbpiaaS
import Derived.Test.YtaaghggojhbpiaaProg
set_option linter.unusedSimpArgs false
set_option linter.unusedVariables false
set_option linter.defProp false
namespace Go.Rex
open Go.Proofs
open Go Go.Rex Go.RowKit
set_option maxRecDepth 100000
theorem ag22 : aggB Try.prog 22 = some true := by kernel_rfl
theorem ag26 : aggB Try.prog 26 = some false := by kernel_rfl
theorem ag3 : aggB Try.prog 3 = some false := by kernel_rfl
theorem ag31 : aggB Try.prog 31 = some true := by kernel_rfl
theorem ag32 : aggB Try.prog 32 = some false := by kernel_rfl
theorem ag79 : aggB Try.prog 79 = some true := by kernel_rfl
theorem ar22 : arrayOf Try.prog 22 = some (2, 3) := by kernel_rfl
theorem ar24 : arrayOf Try.prog 24 = some (2, 22) := by kernel_rfl
theorem ar27 : arrayOf Try.prog 27 = some (2, 26) := by kernel_rfl
theorem ar29 : arrayOf Try.prog 29 = some (3, 3) := by kernel_rfl
theorem ar79 : arrayOf Try.prog 79 = some (5, 3) := by kernel_rfl
theorem by3 : bytesT Try.prog 3 = 8 := by kernel_rfl
theorem by31 : bytesT Try.prog 31 = 40 := by kernel_rfl
theorem cs22 : Try.prog.cellsOf 22 = 2 := by kernel_rfl
theorem cs24 : Try.prog.cellsOf 24 = 4 := by kernel_rfl
theorem cs26 : Try.prog.cellsOf 26 = 1 := by kernel_rfl
theorem cs3 : Try.prog.cellsOf 3 = 1 := by kernel_rfl
theorem cs31 : Try.prog.cellsOf 31 = 5 := by kernel_rfl
theorem cs32 : Try.prog.cellsOf 32 = 1 := by kernel_rfl
theorem cs79 : Try.prog.cellsOf 79 = 5 := by kernel_rfl
theorem fd31_0 : fieldT Try.prog 31 0 = some (0, 29) := by kernel_rfl
theorem fd31_1 : fieldT Try.prog 31 1 = some (3, 22) := by kernel_rfl
theorem ni25 : notInt Try.prog (some 25) = true := by kernel_rfl
theorem ni26 : notInt Try.prog (some 26) = true := by kernel_rfl
theorem ok22 : okT Try.prog 22 = true := by kernel_rfl
theorem ok24 : okT Try.prog 24 = true := by kernel_rfl
theorem ok26 : okT Try.prog 26 = true := by kernel_rfl
theorem ok3 : okT Try.prog 3 = true := by kernel_rfl
theorem ok31 : okT Try.prog 31 = true := by kernel_rfl
theorem ok32 : okT Try.prog 32 = true := by kernel_rfl
theorem ok79 : okT Try.prog 79 = true := by kernel_rfl
theorem so22 : sliceOf Try.prog 22 = none := by kernel_rfl
theorem so24 : sliceOf Try.prog 24 = none := by kernel_rfl
theorem so25 : sliceOf Try.prog 25 = some 31 := by kernel_rfl
theorem so26 : sliceOf Try.prog 26 = some 3 := by kernel_rfl
theorem so27 : sliceOf Try.prog 27 = none := by kernel_rfl
theorem so29 : sliceOf Try.prog 29 = none := by kernel_rfl
theorem so83 : sliceOf Try.prog 83 = some 32 := by kernel_rfl
theorem st22 : structT Try.prog 22 = none := by kernel_rfl
theorem st24 : structT Try.prog 24 = none := by kernel_rfl
theorem st29 : structT Try.prog 29 = none := by kernel_rfl
theorem st31 : structT Try.prog 31 = some [(0, 3), (3, 2)] := by kernel_rfl
theorem st79 : structT Try.prog 79 = none := by kernel_rfl
theorem ub4 : Try.prog.underlying 4 = some .bool := by kernel_rfl
theorem wi64_0a0 : IntKind.i64.wrap (0 + 0) = 0 := by decide
theorem wi64_0a1 : IntKind.i64.wrap (0 + 1) = 1 := by decide
theorem wi64_1a1 : IntKind.i64.wrap (1 + 1) = 2 := by decide
theorem zc22 : zeroC Try.prog 22 = some [.int .i64 0, .int .i64 0] := by kernel_rfl
theorem zc24 : zeroC Try.prog 24 = some [.int .i64 0, .int .i64 0, .int .i64 0, .int .i64 0] := by kernel_rfl
theorem zc27 : zeroC Try.prog 27 = some [.slice none 0 0, .slice none 0 0] := by kernel_rfl
theorem zc29 : zeroC Try.prog 29 = some [.int .i64 0, .int .i64 0, .int .i64 0] := by kernel_rfl
theorem zc3 : zeroC Try.prog 3 = some [.int .i64 0] := by kernel_rfl
theorem zc31 : zeroC Try.prog 31 = some [.int .i64 0, .int .i64 0, .int .i64 0, .int .i64 0, .int .i64 0] := by kernel_rfl
theorem zc32 : zeroC Try.prog 32 = some [.int .i64 0] := by kernel_rfl
theorem zc79 : zeroC Try.prog 79 = some [.int .i64 0, .int .i64 0, .int .i64 0, .int .i64 0, .int .i64 0] := by kernel_rfl
theorem goFn5 : goFn Try.prog 5 = true := by kernel_rfl
theorem goFn6 : goFn Try.prog 6 = true := by kernel_rfl
theorem goFn7 : goFn Try.prog 7 = true := by kernel_rfl
theorem goFn8 : goFn Try.prog 8 = true := by kernel_rfl
theorem goFn9 : goFn Try.prog 9 = true := by kernel_rfl
theorem goFn10 : goFn Try.prog 10 = true := by kernel_rfl
theorem goFn11 : goFn Try.prog 11 = true := by kernel_rfl
theorem goFn18 : goFn Try.prog 18 = true := by kernel_rfl
theorem goFn19 : goFn Try.prog 19 = true := by kernel_rfl
theorem goFn20 : goFn Try.prog 20 = true := by kernel_rfl
theorem goFn21 : goFn Try.prog 21 = true := by kernel_rfl
theorem goFn22 : goFn Try.prog 22 = true := by kernel_rfl
theorem goFn23 : goFn Try.prog 23 = true := by kernel_rfl
theorem goFn24 : goFn Try.prog 24 = true := by kernel_rfl
theorem goFn33 : goFn Try.prog 33 = true := by kernel_rfl
theorem goFn34 : goFn Try.prog 34 = true := by kernel_rfl
theorem goFn35 : goFn Try.prog 35 = true := by kernel_rfl
theorem goFn36 : goFn Try.prog 36 = true := by kernel_rfl
theorem goFn37 : goFn Try.prog 37 = true := by kernel_rfl

end Go.Rex
