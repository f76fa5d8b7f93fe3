/- Facts on types and functions of the program. -/
import Derived.Test.YtojekkfmnnoabaaS
import Derived.Test.YtojekkfmnnoabaaProg
set_option linter.unusedSimpArgs false
set_option linter.unusedVariables false
set_option linter.defProp false
namespace Go.Rex
open Go.Proofs
open Go Go.Rex Go.RowKit
set_option maxRecDepth 100000
theorem ag29 : aggB Try.prog 29 = some false := by kernel_rfl
theorem ag3 : aggB Try.prog 3 = some false := by kernel_rfl
theorem by3 : bytesT Try.prog 3 = 8 := by kernel_rfl
theorem cs29 : Try.prog.cellsOf 29 = 1 := by kernel_rfl
theorem cs3 : Try.prog.cellsOf 3 = 1 := by kernel_rfl
theorem ni49 : notInt Try.prog (some 49) = true := by kernel_rfl
theorem ok29 : okT Try.prog 29 = true := by kernel_rfl
theorem ok3 : okT Try.prog 3 = true := by kernel_rfl
theorem so181 : sliceOf Try.prog 181 = some 29 := by kernel_rfl
theorem so49 : sliceOf Try.prog 49 = some 3 := by kernel_rfl
theorem ub4 : Try.prog.underlying 4 = some .bool := by kernel_rfl
theorem wi64_1 : IntKind.i64.wrap 1 = 1 := by decide
theorem zc29 : zeroC Try.prog 29 = some [.int .i64 0] := by kernel_rfl
theorem zc3 : zeroC Try.prog 3 = some [.int .i64 0] := by kernel_rfl
theorem goFn15 : goFn Try.prog 15 = true := by kernel_rfl
theorem goFn28 : goFn Try.prog 28 = true := by kernel_rfl
theorem goFn29 : goFn Try.prog 29 = true := by kernel_rfl
theorem goFn30 : goFn Try.prog 30 = true := by kernel_rfl
theorem goFn31 : goFn Try.prog 31 = true := by kernel_rfl
theorem goFn32 : goFn Try.prog 32 = true := by kernel_rfl
theorem goFn33 : goFn Try.prog 33 = true := by kernel_rfl
theorem goFn34 : goFn Try.prog 34 = true := by kernel_rfl
theorem goFn35 : goFn Try.prog 35 = true := by kernel_rfl
theorem goFn54 : goFn Try.prog 54 = true := by kernel_rfl
theorem goFn74 : goFn Try.prog 74 = true := by kernel_rfl
theorem goFn75 : goFn Try.prog 75 = true := by kernel_rfl
theorem goFn78 : goFn Try.prog 78 = true := by kernel_rfl
theorem goFn80 : goFn Try.prog 80 = true := by kernel_rfl
theorem goFn81 : goFn Try.prog 81 = true := by kernel_rfl
theorem goFn82 : goFn Try.prog 82 = true := by kernel_rfl
theorem goFn113 : goFn Try.prog 113 = true := by kernel_rfl

end Go.Rex
