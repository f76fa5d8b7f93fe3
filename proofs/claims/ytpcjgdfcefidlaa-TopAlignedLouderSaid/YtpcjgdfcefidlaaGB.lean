/- Facts on types and functions of the program. -/
import Derived.Test.YtpcjgdfcefidlaaS
import Derived.Test.YtpcjgdfcefidlaaProg
set_option linter.unusedSimpArgs false
set_option linter.unusedVariables false
set_option linter.defProp false
namespace Go.Rex
open Go.Proofs
open Go Go.Rex Go.RowKit
set_option maxRecDepth 100000
theorem ag103 : aggB Try.prog 103 = some true := by kernel_rfl
theorem ag106 : aggB Try.prog 106 = some false := by kernel_rfl
theorem ag157 : aggB Try.prog 157 = some false := by kernel_rfl
theorem ag171 : aggB Try.prog 171 = some true := by kernel_rfl
theorem ag173 : aggB Try.prog 173 = some true := by kernel_rfl
theorem ag22 : aggB Try.prog 22 = some false := by kernel_rfl
theorem ag242 : aggB Try.prog 242 = some true := by kernel_rfl
theorem ag26 : aggB Try.prog 26 = some false := by kernel_rfl
theorem ag261 : aggB Try.prog 261 = some false := by kernel_rfl
theorem ag266 : aggB Try.prog 266 = some true := by kernel_rfl
theorem ag270 : aggB Try.prog 270 = some true := by kernel_rfl
theorem ag3 : aggB Try.prog 3 = some false := by kernel_rfl
theorem ag4 : aggB Try.prog 4 = some false := by kernel_rfl
theorem ag89 : aggB Try.prog 89 = some false := by kernel_rfl
theorem ag91 : aggB Try.prog 91 = some true := by kernel_rfl
theorem ag93 : aggB Try.prog 93 = some true := by kernel_rfl
theorem ag98 : aggB Try.prog 98 = some true := by kernel_rfl
theorem ag99 : aggB Try.prog 99 = some false := by kernel_rfl
theorem ar107 : arrayOf Try.prog 107 = some (4, 106) := by kernel_rfl
theorem ar108 : arrayOf Try.prog 108 = some (4, 3) := by kernel_rfl
theorem ar290 : arrayOf Try.prog 290 = some (4, 99) := by kernel_rfl
theorem by242 : bytesT Try.prog 242 = 72 := by kernel_rfl
theorem by98 : bytesT Try.prog 98 = 40 := by kernel_rfl
theorem cs103 : Try.prog.cellsOf 103 = 2 := by kernel_rfl
theorem cs106 : Try.prog.cellsOf 106 = 1 := by kernel_rfl
theorem cs107 : Try.prog.cellsOf 107 = 4 := by kernel_rfl
theorem cs171 : Try.prog.cellsOf 171 = 3 := by kernel_rfl
theorem cs173 : Try.prog.cellsOf 173 = 6 := by kernel_rfl
theorem cs242 : Try.prog.cellsOf 242 = 9 := by kernel_rfl
theorem cs261 : Try.prog.cellsOf 261 = 1 := by kernel_rfl
theorem cs266 : Try.prog.cellsOf 266 = 6 := by kernel_rfl
theorem cs270 : Try.prog.cellsOf 270 = 2 := by kernel_rfl
theorem cs290 : Try.prog.cellsOf 290 = 4 := by kernel_rfl
theorem cs3 : Try.prog.cellsOf 3 = 1 := by kernel_rfl
theorem cs89 : Try.prog.cellsOf 89 = 1 := by kernel_rfl
theorem cs91 : Try.prog.cellsOf 91 = 3 := by kernel_rfl
theorem cs93 : Try.prog.cellsOf 93 = 3 := by kernel_rfl
theorem cs98 : Try.prog.cellsOf 98 = 5 := by kernel_rfl
theorem cs99 : Try.prog.cellsOf 99 = 1 := by kernel_rfl
theorem fd103_0 : fieldT Try.prog 103 0 = some (0, 3) := by kernel_rfl
theorem fd103_1 : fieldT Try.prog 103 1 = some (1, 3) := by kernel_rfl
theorem fd171_0 : fieldT Try.prog 171 0 = some (0, 91) := by kernel_rfl
theorem fd173_0 : fieldT Try.prog 173 0 = some (0, 171) := by kernel_rfl
theorem fd173_1 : fieldT Try.prog 173 1 = some (3, 93) := by kernel_rfl
theorem fd242_0 : fieldT Try.prog 242 0 = some (0, 98) := by kernel_rfl
theorem fd242_1 : fieldT Try.prog 242 1 = some (5, 103) := by kernel_rfl
theorem fd242_2 : fieldT Try.prog 242 2 = some (7, 103) := by kernel_rfl
theorem fd266_0 : fieldT Try.prog 266 0 = some (0, 93) := by kernel_rfl
theorem fd266_1 : fieldT Try.prog 266 1 = some (3, 93) := by kernel_rfl
theorem fd270_0 : fieldT Try.prog 270 0 = some (0, 3) := by kernel_rfl
theorem fd270_1 : fieldT Try.prog 270 1 = some (1, 3) := by kernel_rfl
theorem fd91_0 : fieldT Try.prog 91 0 = some (0, 3) := by kernel_rfl
theorem fd91_1 : fieldT Try.prog 91 1 = some (1, 3) := by kernel_rfl
theorem fd91_2 : fieldT Try.prog 91 2 = some (2, 89) := by kernel_rfl
theorem fd93_0 : fieldT Try.prog 93 0 = some (0, 3) := by kernel_rfl
theorem fd93_1 : fieldT Try.prog 93 1 = some (1, 3) := by kernel_rfl
theorem fd93_2 : fieldT Try.prog 93 2 = some (2, 3) := by kernel_rfl
theorem fd98_0 : fieldT Try.prog 98 0 = some (0, 93) := by kernel_rfl
theorem fd98_1 : fieldT Try.prog 98 1 = some (3, 3) := by kernel_rfl
theorem fd98_2 : fieldT Try.prog 98 2 = some (4, 3) := by kernel_rfl
theorem ni239 : notInt Try.prog (some 239) = true := by kernel_rfl
theorem ni89 : notInt Try.prog (some 89) = true := by kernel_rfl
theorem ok103 : okT Try.prog 103 = true := by kernel_rfl
theorem ok106 : okT Try.prog 106 = true := by kernel_rfl
theorem ok107 : okT Try.prog 107 = true := by kernel_rfl
theorem ok171 : okT Try.prog 171 = true := by kernel_rfl
theorem ok173 : okT Try.prog 173 = true := by kernel_rfl
theorem ok242 : okT Try.prog 242 = true := by kernel_rfl
theorem ok261 : okT Try.prog 261 = true := by kernel_rfl
theorem ok266 : okT Try.prog 266 = true := by kernel_rfl
theorem ok270 : okT Try.prog 270 = true := by kernel_rfl
theorem ok290 : okT Try.prog 290 = true := by kernel_rfl
theorem ok3 : okT Try.prog 3 = true := by kernel_rfl
theorem ok89 : okT Try.prog 89 = true := by kernel_rfl
theorem ok91 : okT Try.prog 91 = true := by kernel_rfl
theorem ok93 : okT Try.prog 93 = true := by kernel_rfl
theorem ok98 : okT Try.prog 98 = true := by kernel_rfl
theorem ok99 : okT Try.prog 99 = true := by kernel_rfl
theorem so107 : sliceOf Try.prog 107 = none := by kernel_rfl
theorem so108 : sliceOf Try.prog 108 = none := by kernel_rfl
theorem so22 : sliceOf Try.prog 22 = some 3 := by kernel_rfl
theorem so239 : sliceOf Try.prog 239 = some 242 := by kernel_rfl
theorem so260 : sliceOf Try.prog 260 = some 261 := by kernel_rfl
theorem so290 : sliceOf Try.prog 290 = none := by kernel_rfl
theorem so89 : sliceOf Try.prog 89 = some 98 := by kernel_rfl
theorem st103 : structT Try.prog 103 = some [(0, 1), (1, 1)] := by kernel_rfl
theorem st107 : structT Try.prog 107 = none := by kernel_rfl
theorem st171 : structT Try.prog 171 = some [(0, 3)] := by kernel_rfl
theorem st173 : structT Try.prog 173 = some [(0, 3), (3, 3)] := by kernel_rfl
theorem st242 : structT Try.prog 242 = some [(0, 5), (5, 2), (7, 2)] := by kernel_rfl
theorem st266 : structT Try.prog 266 = some [(0, 3), (3, 3)] := by kernel_rfl
theorem st270 : structT Try.prog 270 = some [(0, 1), (1, 1)] := by kernel_rfl
theorem st290 : structT Try.prog 290 = none := by kernel_rfl
theorem st91 : structT Try.prog 91 = some [(0, 1), (1, 1), (2, 1)] := by kernel_rfl
theorem un106 : Try.prog.underlying 106 = some (.float .f64) := by kernel_rfl
theorem un3 : Try.prog.underlying 3 = some (.int .i64) := by kernel_rfl
theorem un300 : Try.prog.underlying 300 = some (.int .u64) := by kernel_rfl
theorem wi64_0a1 : IntKind.i64.wrap (0 + 1) = 1 := by decide
theorem wi64_1a1 : IntKind.i64.wrap (1 + 1) = 2 := by decide
theorem zc103 : zeroC Try.prog 103 = some [.int .i64 0, .int .i64 0] := by kernel_rfl
theorem zc107 : zeroC Try.prog 107 = some [.float .f64 0, .float .f64 0, .float .f64 0, .float .f64 0] := by kernel_rfl
theorem zc108 : zeroC Try.prog 108 = some [.int .i64 0, .int .i64 0, .int .i64 0, .int .i64 0] := by kernel_rfl
theorem zc171 : zeroC Try.prog 171 = some [.int .i64 0, .int .i64 0, .slice none 0 0] := by kernel_rfl
theorem zc173 : zeroC Try.prog 173 = some [.int .i64 0, .int .i64 0, .slice none 0 0, .int .i64 0, .int .i64 0, .int .i64 0] := by kernel_rfl
theorem zc242 : zeroC Try.prog 242 = some [.int .i64 0, .int .i64 0, .int .i64 0, .int .i64 0, .int .i64 0, .int .i64 0, .int .i64 0, .int .i64 0, .int .i64 0] := by kernel_rfl
theorem zc261 : zeroC Try.prog 261 = some [.nilFunc] := by kernel_rfl
theorem zc266 : zeroC Try.prog 266 = some [.int .i64 0, .int .i64 0, .int .i64 0, .int .i64 0, .int .i64 0, .int .i64 0] := by kernel_rfl
theorem zc270 : zeroC Try.prog 270 = some [.int .i64 0, .int .i64 0] := by kernel_rfl
theorem zc290 : zeroC Try.prog 290 = some [.complex .f64 0 0, .complex .f64 0 0, .complex .f64 0 0, .complex .f64 0 0] := by kernel_rfl
theorem zc3 : zeroC Try.prog 3 = some [.int .i64 0] := by kernel_rfl
theorem zc91 : zeroC Try.prog 91 = some [.int .i64 0, .int .i64 0, .slice none 0 0] := by kernel_rfl
theorem zc98 : zeroC Try.prog 98 = some [.int .i64 0, .int .i64 0, .int .i64 0, .int .i64 0, .int .i64 0] := by kernel_rfl
theorem goFn41 : goFn Try.prog 41 = true := by kernel_rfl
theorem goFn46 : goFn Try.prog 46 = true := by kernel_rfl
theorem goFn47 : goFn Try.prog 47 = true := by kernel_rfl
theorem goFn48 : goFn Try.prog 48 = true := by kernel_rfl
theorem goFn49 : goFn Try.prog 49 = true := by kernel_rfl
theorem goFn50 : goFn Try.prog 50 = true := by kernel_rfl
theorem goFn51 : goFn Try.prog 51 = true := by kernel_rfl
theorem goFn95 : goFn Try.prog 95 = true := by kernel_rfl
theorem goFn96 : goFn Try.prog 96 = true := by kernel_rfl
theorem goFn97 : goFn Try.prog 97 = true := by kernel_rfl
theorem goFn98 : goFn Try.prog 98 = true := by kernel_rfl
theorem goFn99 : goFn Try.prog 99 = true := by kernel_rfl
theorem goFn100 : goFn Try.prog 100 = true := by kernel_rfl
theorem goFn148 : goFn Try.prog 148 = true := by kernel_rfl
theorem goFn149 : goFn Try.prog 149 = true := by kernel_rfl
theorem goFn150 : goFn Try.prog 150 = true := by kernel_rfl
theorem goFn151 : goFn Try.prog 151 = true := by kernel_rfl
theorem goFn152 : goFn Try.prog 152 = true := by kernel_rfl
theorem goFn153 : goFn Try.prog 153 = true := by kernel_rfl
theorem goFn154 : goFn Try.prog 154 = true := by kernel_rfl
theorem goFn155 : goFn Try.prog 155 = true := by kernel_rfl
theorem goFn156 : goFn Try.prog 156 = true := by kernel_rfl
theorem goFn188 : goFn Try.prog 188 = true := by kernel_rfl
theorem goFn189 : goFn Try.prog 189 = true := by kernel_rfl
theorem goFn190 : goFn Try.prog 190 = true := by kernel_rfl
theorem goFn191 : goFn Try.prog 191 = true := by kernel_rfl
theorem goFn192 : goFn Try.prog 192 = true := by kernel_rfl
theorem goFn193 : goFn Try.prog 193 = true := by kernel_rfl
theorem goFn194 : goFn Try.prog 194 = true := by kernel_rfl
theorem goFn195 : goFn Try.prog 195 = true := by kernel_rfl
theorem goFn196 : goFn Try.prog 196 = true := by kernel_rfl
theorem goFn197 : goFn Try.prog 197 = true := by kernel_rfl
theorem goFn198 : goFn Try.prog 198 = true := by kernel_rfl
theorem goFn199 : goFn Try.prog 199 = true := by kernel_rfl
theorem goFn218 : goFn Try.prog 218 = true := by kernel_rfl
theorem goFn219 : goFn Try.prog 219 = true := by kernel_rfl
theorem goFn220 : goFn Try.prog 220 = true := by kernel_rfl
theorem goFn221 : goFn Try.prog 221 = true := by kernel_rfl
theorem goFn222 : goFn Try.prog 222 = true := by kernel_rfl
theorem goFn223 : goFn Try.prog 223 = true := by kernel_rfl
theorem goFn224 : goFn Try.prog 224 = true := by kernel_rfl
theorem goFn225 : goFn Try.prog 225 = true := by kernel_rfl
theorem goFn226 : goFn Try.prog 226 = true := by kernel_rfl
theorem goFn239 : goFn Try.prog 239 = true := by kernel_rfl
theorem goFn240 : goFn Try.prog 240 = true := by kernel_rfl
theorem goFn241 : goFn Try.prog 241 = true := by kernel_rfl
theorem goFn242 : goFn Try.prog 242 = true := by kernel_rfl
theorem goFn243 : goFn Try.prog 243 = true := by kernel_rfl
theorem goFn244 : goFn Try.prog 244 = true := by kernel_rfl
theorem goFn245 : goFn Try.prog 245 = true := by kernel_rfl
theorem goFn250 : goFn Try.prog 250 = true := by kernel_rfl
theorem goFn251 : goFn Try.prog 251 = true := by kernel_rfl
def zn := And.intro Bool.not_true Bool.not_false
def zp.{u} := @List.getElem?_toArray.{u}
def zs.{u, v} := @Option.bind_some.{u, v}
def zl.{u} := @List.toList_toArray.{u}

end Go.Rex
