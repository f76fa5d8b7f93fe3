/- Facts on types and functions of the program. -/
import Derived.Test.YtllnpjkkpebplaaS
import Derived.Test.YtllnpjkkpebplaaProg
set_option linter.unusedSimpArgs false
set_option linter.unusedVariables false
set_option linter.defProp false
namespace Go.Rex
open Go.Proofs
open Go Go.Rex Go.RowKit
set_option maxRecDepth 100000
theorem ag135 : aggB Try.prog 135 = some true := by kernel_rfl
theorem ag3 : aggB Try.prog 3 = some false := by kernel_rfl
theorem ag41 : aggB Try.prog 41 = some true := by kernel_rfl
theorem by135 : bytesT Try.prog 135 = 16 := by kernel_rfl
theorem cs135 : Try.prog.cellsOf 135 = 2 := by kernel_rfl
theorem cs41 : Try.prog.cellsOf 41 = 3 := by kernel_rfl
theorem fd135_0 : fieldT Try.prog 135 0 = some (0, 3) := by kernel_rfl
theorem fd135_1 : fieldT Try.prog 135 1 = some (1, 3) := by kernel_rfl
theorem fd41_0 : fieldT Try.prog 41 0 = some (0, 3) := by kernel_rfl
theorem fd41_1 : fieldT Try.prog 41 1 = some (1, 3) := by kernel_rfl
theorem fd41_2 : fieldT Try.prog 41 2 = some (2, 3) := by kernel_rfl
theorem ok135 : okT Try.prog 135 = true := by kernel_rfl
theorem ok41 : okT Try.prog 41 = true := by kernel_rfl
theorem so105 : sliceOf Try.prog 105 = some 135 := by kernel_rfl
theorem st135 : structT Try.prog 135 = some [(0, 1), (1, 1)] := by kernel_rfl
theorem ub4 : Try.prog.underlying 4 = some .bool := by kernel_rfl
theorem un155 : Try.prog.underlying 155 = some (.int .u64) := by kernel_rfl
theorem un160 : Try.prog.underlying 160 = some (.int .u64) := by kernel_rfl
theorem un3 : Try.prog.underlying 3 = some (.int .i64) := by kernel_rfl
theorem un5 : Try.prog.underlying 5 = some (.int .u8) := by kernel_rfl
theorem us9 : Try.prog.underlying 9 = some .string := by kernel_rfl
theorem wi64_0a16 : IntKind.i64.wrap (0 + 16) = 16 := by decide
theorem wi64_0a8 : IntKind.i64.wrap (0 + 8) = 8 := by decide
theorem wi64_16a8 : IntKind.i64.wrap (16 + 8) = 24 := by decide
theorem wi64_256a256 : IntKind.i64.wrap (256 + 256) = 512 := by decide
theorem wi64_256a512 : IntKind.i64.wrap (256 + 512) = 768 := by decide
theorem wi64_256s256 : IntKind.i64.wrap (256 - 256) = 0 := by decide
theorem wi64_2m256 : IntKind.i64.wrap (2 * 256) = 512 := by decide
theorem wi64_32a16 : IntKind.i64.wrap (32 + 16) = 48 := by decide
theorem wi64_32a8 : IntKind.i64.wrap (32 + 8) = 40 := by decide
theorem wi64_48a8 : IntKind.i64.wrap (48 + 8) = 56 := by decide
theorem zc135 : zeroC Try.prog 135 = some [.int .i64 0, .int .i64 0] := by kernel_rfl
theorem goFn14 : goFn Try.prog 14 = true := by kernel_rfl
theorem goFn24 : goFn Try.prog 24 = true := by kernel_rfl
theorem goFn33 : goFn Try.prog 33 = true := by kernel_rfl
theorem goFn34 : goFn Try.prog 34 = true := by kernel_rfl
theorem goFn71 : goFn Try.prog 71 = true := by kernel_rfl
theorem goFn80 : goFn Try.prog 80 = true := by kernel_rfl
theorem goFn81 : goFn Try.prog 81 = true := by kernel_rfl
theorem goFn90 : goFn Try.prog 90 = true := by kernel_rfl
theorem goFn104 : goFn Try.prog 104 = true := by kernel_rfl
theorem goFn105 : goFn Try.prog 105 = true := by kernel_rfl
theorem goFn107 : goFn Try.prog 107 = true := by kernel_rfl
theorem goFn112 : goFn Try.prog 112 = true := by kernel_rfl
theorem goFn135 : goFn Try.prog 135 = true := by kernel_rfl
theorem goFn136 : goFn Try.prog 136 = true := by kernel_rfl
theorem goFn137 : goFn Try.prog 137 = true := by kernel_rfl
theorem goFn138 : goFn Try.prog 138 = true := by kernel_rfl
theorem goFn144 : goFn Try.prog 144 = true := by kernel_rfl
theorem goFn147 : goFn Try.prog 147 = true := by kernel_rfl
def zn := And.intro Bool.not_true Bool.not_false
def zp.{u} := @List.getElem?_toArray.{u}
def zs.{u, v} := @Option.bind_some.{u, v}
def zl.{u} := @List.toList_toArray.{u}

end Go.Rex
