/- Facts on types and functions of the program. -/
import Derived.Test.YtnnmnciaopaciaaS
import Derived.Test.YtnnmnciaopaciaaProg
set_option linter.unusedSimpArgs false
set_option linter.unusedVariables false
namespace Go.Rex
open Go.Proofs
open Go Go.Rex Go.RowKit
set_option maxRecDepth 100000
theorem ag121 : aggB Try.prog 121 = some false := by kernel_rfl
theorem ag26 : aggB Try.prog 26 = some false := by kernel_rfl
theorem ag3 : aggB Try.prog 3 = some false := by kernel_rfl
theorem ag4 : aggB Try.prog 4 = some false := by kernel_rfl
theorem ag96 : aggB Try.prog 96 = some true := by kernel_rfl
theorem ag97 : aggB Try.prog 97 = some false := by kernel_rfl
theorem ar154 : arrayOf Try.prog 154 = some (4, 97) := by kernel_rfl
theorem ar181 : arrayOf Try.prog 181 = some (4, 96) := by kernel_rfl
theorem ar96 : arrayOf Try.prog 96 = some (2, 3) := by kernel_rfl
theorem by96 : bytesT Try.prog 96 = 16 := by kernel_rfl
theorem by97 : bytesT Try.prog 97 = 8 := by kernel_rfl
theorem cs121 : Try.prog.cellsOf 121 = 1 := by kernel_rfl
theorem cs154 : Try.prog.cellsOf 154 = 4 := by kernel_rfl
theorem cs3 : Try.prog.cellsOf 3 = 1 := by kernel_rfl
theorem cs96 : Try.prog.cellsOf 96 = 2 := by kernel_rfl
theorem cs97 : Try.prog.cellsOf 97 = 1 := by kernel_rfl
theorem ex157 : extF Try.prog 157 = some Extern.MathFloatBits.float64bits := by kernel_rfl
theorem ni65 : notInt Try.prog (some 65) = true := by kernel_rfl
theorem ni95 : notInt Try.prog (some 95) = true := by kernel_rfl
theorem ok121 : okT Try.prog 121 = true := by kernel_rfl
theorem ok154 : okT Try.prog 154 = true := by kernel_rfl
theorem ok3 : okT Try.prog 3 = true := by kernel_rfl
theorem ok96 : okT Try.prog 96 = true := by kernel_rfl
theorem ok97 : okT Try.prog 97 = true := by kernel_rfl
theorem so154 : sliceOf Try.prog 154 = none := by kernel_rfl
theorem so168 : sliceOf Try.prog 168 = some 121 := by kernel_rfl
theorem so181 : sliceOf Try.prog 181 = none := by kernel_rfl
theorem so65 : sliceOf Try.prog 65 = some 97 := by kernel_rfl
theorem so95 : sliceOf Try.prog 95 = some 96 := by kernel_rfl
theorem so96 : sliceOf Try.prog 96 = none := by kernel_rfl
theorem st154 : structT Try.prog 154 = none := by kernel_rfl
theorem st181 : structT Try.prog 181 = none := by kernel_rfl
theorem st96 : structT Try.prog 96 = none := by kernel_rfl
theorem un147 : Try.prog.underlying 147 = some (.complex .f64) := by kernel_rfl
theorem un3 : Try.prog.underlying 3 = some (.int .i64) := by kernel_rfl
theorem un97 : Try.prog.underlying 97 = some (.complex .f32) := by kernel_rfl
theorem un99 : Try.prog.underlying 99 = some (.float .f32) := by kernel_rfl
theorem wi64_1 : IntKind.i64.wrap 1 = 1 := by decide
theorem wi64_2 : IntKind.i64.wrap 2 = 2 := by decide
theorem zc121 : zeroC Try.prog 121 = some [.nilFunc] := by kernel_rfl
theorem zc154 : zeroC Try.prog 154 = some [.complex .f32 0 0, .complex .f32 0 0, .complex .f32 0 0, .complex .f32 0 0] := by kernel_rfl
theorem zc181 : zeroC Try.prog 181 = some [.int .i64 0, .int .i64 0, .int .i64 0, .int .i64 0, .int .i64 0, .int .i64 0, .int .i64 0, .int .i64 0] := by kernel_rfl
theorem zc96 : zeroC Try.prog 96 = some [.int .i64 0, .int .i64 0] := by kernel_rfl
theorem zc97 : zeroC Try.prog 97 = some [.complex .f32 0 0] := by kernel_rfl
theorem goFn15 : goFn Try.prog 15 = true := by kernel_rfl
theorem goFn23 : goFn Try.prog 23 = true := by kernel_rfl
theorem goFn49 : goFn Try.prog 49 = true := by kernel_rfl
theorem goFn60 : goFn Try.prog 60 = true := by kernel_rfl
theorem goFn61 : goFn Try.prog 61 = true := by kernel_rfl
theorem goFn73 : goFn Try.prog 73 = true := by kernel_rfl
theorem goFn76 : goFn Try.prog 76 = true := by kernel_rfl
theorem goFn79 : goFn Try.prog 79 = true := by kernel_rfl
theorem goFn103 : goFn Try.prog 103 = true := by kernel_rfl
theorem goFn107 : goFn Try.prog 107 = true := by kernel_rfl
theorem goFn122 : goFn Try.prog 122 = true := by kernel_rfl
theorem goFn130 : goFn Try.prog 130 = true := by kernel_rfl
theorem goFn144 : goFn Try.prog 144 = true := by kernel_rfl
theorem goFn156 : goFn Try.prog 156 = true := by kernel_rfl

end Go.Rex
