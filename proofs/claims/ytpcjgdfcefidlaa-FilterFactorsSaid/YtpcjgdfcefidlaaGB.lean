/- Facts on types and functions of the program. -/
import Derived.Test.YtpcjgdfcefidlaaS
import Derived.Test.YtpcjgdfcefidlaaProg
set_option linter.unusedSimpArgs false
set_option linter.unusedVariables false
set_option linter.defProp false
namespace Go.Rex
open Go.Proofs
open Go Go.Rex Go.RowKit
set_option maxRecDepth 100000
theorem ag26 : aggB Try.prog 26 = some false := by kernel_rfl
theorem ag3 : aggB Try.prog 3 = some false := by kernel_rfl
theorem by3 : bytesT Try.prog 3 = 8 := by kernel_rfl
theorem cs26 : Try.prog.cellsOf 26 = 1 := by kernel_rfl
theorem cs3 : Try.prog.cellsOf 3 = 1 := by kernel_rfl
theorem ni22 : notInt Try.prog (some 22) = true := by kernel_rfl
theorem ok26 : okT Try.prog 26 = true := by kernel_rfl
theorem ok3 : okT Try.prog 3 = true := by kernel_rfl
theorem so22 : sliceOf Try.prog 22 = some 3 := by kernel_rfl
theorem so226 : sliceOf Try.prog 226 = some 26 := by kernel_rfl
theorem ub4 : Try.prog.underlying 4 = some .bool := by kernel_rfl
theorem wi64_0a0 : IntKind.i64.wrap (0 + 0) = 0 := by decide
theorem wi64_0a1 : IntKind.i64.wrap (0 + 1) = 1 := by decide
theorem zc26 : zeroC Try.prog 26 = some [.int .i64 0] := by kernel_rfl
theorem zc3 : zeroC Try.prog 3 = some [.int .i64 0] := by kernel_rfl
theorem goFn12 : goFn Try.prog 12 = true := by kernel_rfl
theorem goFn13 : goFn Try.prog 13 = true := by kernel_rfl
theorem goFn14 : goFn Try.prog 14 = true := by kernel_rfl
theorem goFn15 : goFn Try.prog 15 = true := by kernel_rfl
theorem goFn16 : goFn Try.prog 16 = true := by kernel_rfl
theorem goFn17 : goFn Try.prog 17 = true := by kernel_rfl
theorem goFn38 : goFn Try.prog 38 = true := by kernel_rfl
theorem goFn70 : goFn Try.prog 70 = true := by kernel_rfl
theorem goFn71 : goFn Try.prog 71 = true := by kernel_rfl
theorem goFn72 : goFn Try.prog 72 = true := by kernel_rfl
theorem goFn75 : goFn Try.prog 75 = true := by kernel_rfl
theorem goFn83 : goFn Try.prog 83 = true := by kernel_rfl
theorem goFn89 : goFn Try.prog 89 = true := by kernel_rfl
theorem goFn145 : goFn Try.prog 145 = true := by kernel_rfl
def zn := And.intro Bool.not_true Bool.not_false
def zp.{u} := @List.getElem?_toArray.{u}
def zs.{u, v} := @Option.bind_some.{u, v}
def zl.{u} := @List.toList_toArray.{u}

end Go.Rex
