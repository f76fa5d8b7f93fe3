/- Facts on types and functions of the program. -/
import Derived.Test.YtcegcnihfoaaeaaS
import Derived.Test.YtcegcnihfoaaeaaProg
set_option linter.unusedSimpArgs false
set_option linter.unusedVariables false
set_option linter.defProp false
namespace Go.Rex
open Go.Proofs
open Go Go.Rex Go.RowKit
set_option maxRecDepth 100000
theorem ag109 : aggB Try.prog 109 = some false := by kernel_rfl
theorem ag136 : aggB Try.prog 136 = some true := by kernel_rfl
theorem ag152 : aggB Try.prog 152 = some false := by kernel_rfl
theorem ag22 : aggB Try.prog 22 = some false := by kernel_rfl
theorem ag26 : aggB Try.prog 26 = some false := by kernel_rfl
theorem ag3 : aggB Try.prog 3 = some false := by kernel_rfl
theorem ag4 : aggB Try.prog 4 = some false := by kernel_rfl
theorem ag73 : aggB Try.prog 73 = some true := by kernel_rfl
theorem by3 : bytesT Try.prog 3 = 8 := by kernel_rfl
theorem cs109 : Try.prog.cellsOf 109 = 1 := by kernel_rfl
theorem cs136 : Try.prog.cellsOf 136 = 3 := by kernel_rfl
theorem cs3 : Try.prog.cellsOf 3 = 1 := by kernel_rfl
theorem cs73 : Try.prog.cellsOf 73 = 3 := by kernel_rfl
theorem fd136_0 : fieldT Try.prog 136 0 = some (0, 73) := by kernel_rfl
theorem fd73_0 : fieldT Try.prog 73 0 = some (0, 3) := by kernel_rfl
theorem fd73_1 : fieldT Try.prog 73 1 = some (1, 3) := by kernel_rfl
theorem fd73_2 : fieldT Try.prog 73 2 = some (2, 3) := by kernel_rfl
theorem ni22 : notInt Try.prog (some 22) = true := by kernel_rfl
theorem ok109 : okT Try.prog 109 = true := by kernel_rfl
theorem ok136 : okT Try.prog 136 = true := by kernel_rfl
theorem ok3 : okT Try.prog 3 = true := by kernel_rfl
theorem ok73 : okT Try.prog 73 = true := by kernel_rfl
theorem so155 : sliceOf Try.prog 155 = some 109 := by kernel_rfl
theorem so22 : sliceOf Try.prog 22 = some 3 := by kernel_rfl
theorem st136 : structT Try.prog 136 = some [(0, 3)] := by kernel_rfl
theorem wi64_0 : IntKind.i64.wrap 0 = 0 := by decide
theorem wi64_1 : IntKind.i64.wrap 1 = 1 := by decide
theorem wi64_2 : IntKind.i64.wrap 2 = 2 := by decide
theorem wi64_3 : IntKind.i64.wrap 3 = 3 := by decide
theorem wi64_4 : IntKind.i64.wrap 4 = 4 := by decide
theorem wi64_5 : IntKind.i64.wrap 5 = 5 := by decide
theorem wi64_6 : IntKind.i64.wrap 6 = 6 := by decide
theorem zc109 : zeroC Try.prog 109 = some [.nilFunc] := by kernel_rfl
theorem zc136 : zeroC Try.prog 136 = some [.int .i64 0, .int .i64 0, .int .i64 0] := by kernel_rfl
theorem zc3 : zeroC Try.prog 3 = some [.int .i64 0] := by kernel_rfl
theorem goFn12 : goFn Try.prog 12 = true := by kernel_rfl
theorem goFn20 : goFn Try.prog 20 = true := by kernel_rfl
theorem goFn21 : goFn Try.prog 21 = true := by kernel_rfl
theorem goFn29 : goFn Try.prog 29 = true := by kernel_rfl
theorem goFn35 : goFn Try.prog 35 = true := by kernel_rfl
theorem goFn38 : goFn Try.prog 38 = true := by kernel_rfl
theorem goFn46 : goFn Try.prog 46 = true := by kernel_rfl
theorem goFn47 : goFn Try.prog 47 = true := by kernel_rfl
theorem goFn48 : goFn Try.prog 48 = true := by kernel_rfl
theorem goFn49 : goFn Try.prog 49 = true := by kernel_rfl
theorem goFn50 : goFn Try.prog 50 = true := by kernel_rfl
theorem goFn51 : goFn Try.prog 51 = true := by kernel_rfl
theorem goFn64 : goFn Try.prog 64 = true := by kernel_rfl
theorem goFn67 : goFn Try.prog 67 = true := by kernel_rfl
theorem goFn70 : goFn Try.prog 70 = true := by kernel_rfl
theorem goFn83 : goFn Try.prog 83 = true := by kernel_rfl
theorem goFn84 : goFn Try.prog 84 = true := by kernel_rfl
theorem goFn98 : goFn Try.prog 98 = true := by kernel_rfl
theorem goFn99 : goFn Try.prog 99 = true := by kernel_rfl
theorem goFn100 : goFn Try.prog 100 = true := by kernel_rfl
theorem goFn101 : goFn Try.prog 101 = true := by kernel_rfl
theorem goFn102 : goFn Try.prog 102 = true := by kernel_rfl
theorem goFn103 : goFn Try.prog 103 = true := by kernel_rfl
theorem goFn104 : goFn Try.prog 104 = true := by kernel_rfl
theorem goFn114 : goFn Try.prog 114 = true := by kernel_rfl
theorem goFn127 : goFn Try.prog 127 = true := by kernel_rfl
theorem goFn130 : goFn Try.prog 130 = true := by kernel_rfl
theorem goFn132 : goFn Try.prog 132 = true := by kernel_rfl
theorem goFn142 : goFn Try.prog 142 = true := by kernel_rfl
theorem goFn143 : goFn Try.prog 143 = true := by kernel_rfl
theorem goFn144 : goFn Try.prog 144 = true := by kernel_rfl
theorem goFn145 : goFn Try.prog 145 = true := by kernel_rfl
theorem goFn146 : goFn Try.prog 146 = true := by kernel_rfl
theorem goFn147 : goFn Try.prog 147 = true := by kernel_rfl
theorem goFn148 : goFn Try.prog 148 = true := by kernel_rfl
theorem goFn150 : goFn Try.prog 150 = true := by kernel_rfl
theorem goFn157 : goFn Try.prog 157 = true := by kernel_rfl
theorem goFn158 : goFn Try.prog 158 = true := by kernel_rfl
theorem goFn161 : goFn Try.prog 161 = true := by kernel_rfl
theorem goFn162 : goFn Try.prog 162 = true := by kernel_rfl
theorem goFn163 : goFn Try.prog 163 = true := by kernel_rfl
theorem goFn164 : goFn Try.prog 164 = true := by kernel_rfl

end Go.Rex
