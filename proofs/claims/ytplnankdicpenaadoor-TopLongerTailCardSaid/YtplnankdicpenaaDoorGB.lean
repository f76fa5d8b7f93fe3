/- Facts on types and functions of the program. -/
import Derived.Test.YtplnankdicpenaaDoorS
import Derived.Test.YtplnankdicpenaaDoorRexG10
import Derived.Test.YtplnankdicpenaaDoorProg
set_option linter.unusedSimpArgs false
set_option linter.unusedVariables false
set_option linter.defProp false
namespace Go.Rex
open Go.Proofs
open Go Go.Rex Go.RowKit
set_option maxRecDepth 100000
theorem ag104 : aggB Tryd.prog 104 = some false:=by kernel_rfl
theorem ag106 : aggB Tryd.prog 106 = some true:=by kernel_rfl
theorem ag22 : aggB Tryd.prog 22 = some false:=by kernel_rfl
theorem ag24 : aggB Tryd.prog 24 = some true:=by kernel_rfl
theorem ag26 : aggB Tryd.prog 26 = some true:=by kernel_rfl
theorem ag3 : aggB Tryd.prog 3 = some false:=by kernel_rfl
theorem ag33 : aggB Tryd.prog 33 = some false:=by kernel_rfl
theorem ag37 : aggB Tryd.prog 37 = some true:=by kernel_rfl
theorem ag50 : aggB Tryd.prog 50 = some true:=by kernel_rfl
theorem ag53 : aggB Tryd.prog 53 = some false:=by kernel_rfl
theorem ag57 : aggB Tryd.prog 57 = some true:=by kernel_rfl
theorem ag63 : aggB Tryd.prog 63 = some false:=by kernel_rfl
theorem ag75 : aggB Tryd.prog 75 = some true:=by kernel_rfl
theorem ar27 : arrayOf Tryd.prog 27 = some (2,3):=by kernel_rfl
theorem ar76 : arrayOf Tryd.prog 76 = some (3,75):=by kernel_rfl
theorem ar_93 : archP Tryd.prog 93 = true:=by kernel_rfl
theorem by37 : bytesT Tryd.prog 37 = 16:=by kernel_rfl
theorem by57 : bytesT Tryd.prog 57 = 16:=by kernel_rfl
theorem by63 : bytesT Tryd.prog 63 = 4:=by kernel_rfl
theorem cs106 : Tryd.prog.cellsOf 106 = 2:=by kernel_rfl
theorem cs24 : Tryd.prog.cellsOf 24 = 2:=by kernel_rfl
theorem cs26 : Tryd.prog.cellsOf 26 = 4:=by kernel_rfl
theorem cs3 : Tryd.prog.cellsOf 3 = 1:=by kernel_rfl
theorem cs33 : Tryd.prog.cellsOf 33 = 1:=by kernel_rfl
theorem cs37 : Tryd.prog.cellsOf 37 = 2:=by kernel_rfl
theorem cs50 : Tryd.prog.cellsOf 50 = 4:=by kernel_rfl
theorem cs53 : Tryd.prog.cellsOf 53 = 1:=by kernel_rfl
theorem cs57 : Tryd.prog.cellsOf 57 = 2:=by kernel_rfl
theorem cs63 : Tryd.prog.cellsOf 63 = 1:=by kernel_rfl
theorem cs75 : Tryd.prog.cellsOf 75 = 3:=by kernel_rfl
theorem ex93 : extF Tryd.prog 93 = some (Extern.MathFloor.toIntegral "math.archTrunc" .zero) := by kernel_rfl
theorem ex98 : extF Tryd.prog 98 = some Extern.MathFloatBits.float64bits:=by kernel_rfl
theorem ex99 : extF Tryd.prog 99 = some Extern.MathFloatBits.float64frombits:=by kernel_rfl
theorem fd106_0 : fieldT Tryd.prog 106 0 = some (0,104):=by kernel_rfl
theorem fd106_1 : fieldT Tryd.prog 106 1 = some (1,104):=by kernel_rfl
theorem fd24_0 : fieldT Tryd.prog 24 0 = some (0,3):=by kernel_rfl
theorem fd24_1 : fieldT Tryd.prog 24 1 = some (1,22):=by kernel_rfl
theorem fd26_0 : fieldT Tryd.prog 26 0 = some (0,24):=by kernel_rfl
theorem fd26_1 : fieldT Tryd.prog 26 1 = some (2,3):=by kernel_rfl
theorem fd26_2 : fieldT Tryd.prog 26 2 = some (3,3):=by kernel_rfl
theorem fd37_0 : fieldT Tryd.prog 37 0 = some (0,3):=by kernel_rfl
theorem fd37_1 : fieldT Tryd.prog 37 1 = some (1,3):=by kernel_rfl
theorem fd50_0 : fieldT Tryd.prog 50 0 = some (0,26):=by kernel_rfl
theorem fd57_0 : fieldT Tryd.prog 57 0 = some (0,37):=by kernel_rfl
theorem fd75_0 : fieldT Tryd.prog 75 0 = some (0,3):=by kernel_rfl
theorem fd75_1 : fieldT Tryd.prog 75 1 = some (1,3):=by kernel_rfl
theorem fd75_2 : fieldT Tryd.prog 75 2 = some (2,3):=by kernel_rfl
theorem ni22 : notInt Tryd.prog (some 22) = true:=by kernel_rfl
theorem ni32 : notInt Tryd.prog (some 32) = true:=by kernel_rfl
theorem ok106 : okT Tryd.prog 106 = true:=by kernel_rfl
theorem ok24 : okT Tryd.prog 24 = true:=by kernel_rfl
theorem ok26 : okT Tryd.prog 26 = true:=by kernel_rfl
theorem ok3 : okT Tryd.prog 3 = true:=by kernel_rfl
theorem ok33 : okT Tryd.prog 33 = true:=by kernel_rfl
theorem ok37 : okT Tryd.prog 37 = true:=by kernel_rfl
theorem ok50 : okT Tryd.prog 50 = true:=by kernel_rfl
theorem ok53 : okT Tryd.prog 53 = true:=by kernel_rfl
theorem ok57 : okT Tryd.prog 57 = true:=by kernel_rfl
theorem ok63 : okT Tryd.prog 63 = true:=by kernel_rfl
theorem ok75 : okT Tryd.prog 75 = true:=by kernel_rfl
theorem so22 : sliceOf Tryd.prog 22 = some 63:=by kernel_rfl
theorem so27 : sliceOf Tryd.prog 27 = none:=by kernel_rfl
theorem so32 : sliceOf Tryd.prog 32 = some 37:=by kernel_rfl
theorem so53 : sliceOf Tryd.prog 53 = some 57:=by kernel_rfl
theorem so72 : sliceOf Tryd.prog 72 = some 33:=by kernel_rfl
theorem so76 : sliceOf Tryd.prog 76 = none:=by kernel_rfl
theorem st106 : structT Tryd.prog 106 = some [(0,1),(1,1)]:=by kernel_rfl
theorem st24 : structT Tryd.prog 24 = some [(0,1),(1,1)]:=by kernel_rfl
theorem st26 : structT Tryd.prog 26 = some [(0,2),(2,1),(3,1)]:=by kernel_rfl
theorem st37 : structT Tryd.prog 37 = some [(0,1),(1,1)]:=by kernel_rfl
theorem st50 : structT Tryd.prog 50 = some [(0,4)]:=by kernel_rfl
theorem st57 : structT Tryd.prog 57 = some [(0,2)]:=by kernel_rfl
theorem un104 : Tryd.prog.underlying 104 = some (.int .u64):=by kernel_rfl
theorem un133 : Tryd.prog.underlying 133 = some (.float .f64):=by kernel_rfl
theorem un3 : Tryd.prog.underlying 3 = some (.int .i64):=by kernel_rfl
theorem un63 : Tryd.prog.underlying 63 = some (.float .f32):=by kernel_rfl
theorem wi64_0a1 : IntKind.i64.wrap (0 + 1) = 1:=by decide
theorem wi64_1m10 : IntKind.i64.wrap (1 * 10) = 10:=by decide
theorem zc106 : zeroC Tryd.prog 106 = some [.int .u64 0,.int .u64 0]:=by kernel_rfl
theorem zc24 : zeroC Tryd.prog 24 = some [.int .i64 0,.slice none 0 0]:=by kernel_rfl
theorem zc26 : zeroC Tryd.prog 26 = some [.int .i64 0,.slice none 0 0,.int .i64 0,.int .i64 0]:=by kernel_rfl
theorem zc33 : zeroC Tryd.prog 33 = some [.int .i64 0]:=by kernel_rfl
theorem zc37 : zeroC Tryd.prog 37 = some [.int .i64 0,.int .i64 0]:=by kernel_rfl
theorem zc50 : zeroC Tryd.prog 50 = some [.int .i64 0,.slice none 0 0,.int .i64 0,.int .i64 0]:=by kernel_rfl
theorem zc53 : zeroC Tryd.prog 53 = some [.slice none 0 0]:=by kernel_rfl
theorem zc57 : zeroC Tryd.prog 57 = some [.int .i64 0,.int .i64 0]:=by kernel_rfl
theorem zc63 : zeroC Tryd.prog 63 = some [.float .f32 0]:=by kernel_rfl
theorem zc75 : zeroC Tryd.prog 75 = some [.int .i64 0,.int .i64 0,.int .i64 0]:=by kernel_rfl
theorem goFn4 : goFn Tryd.prog 4 = true:=by kernel_rfl
theorem goFn5 : goFn Tryd.prog 5 = true:=by kernel_rfl
theorem goFn6 : goFn Tryd.prog 6 = true:=by kernel_rfl
theorem goFn7 : goFn Tryd.prog 7 = true:=by kernel_rfl
theorem goFn8 : goFn Tryd.prog 8 = true:=by kernel_rfl
theorem goFn9 : goFn Tryd.prog 9 = true:=by kernel_rfl
theorem goFn10 : goFn Tryd.prog 10 = true:=by kernel_rfl
theorem goFn14 : goFn Tryd.prog 14 = true:=by kernel_rfl
theorem goFn15 : goFn Tryd.prog 15 = true:=by kernel_rfl
theorem goFn16 : goFn Tryd.prog 16 = true:=by kernel_rfl
theorem goFn17 : goFn Tryd.prog 17 = true:=by kernel_rfl
theorem goFn18 : goFn Tryd.prog 18 = true:=by kernel_rfl
theorem goFn19 : goFn Tryd.prog 19 = true:=by kernel_rfl
theorem goFn20 : goFn Tryd.prog 20 = true:=by kernel_rfl
theorem goFn21 : goFn Tryd.prog 21 = true:=by kernel_rfl
theorem goFn25 : goFn Tryd.prog 25 = true:=by kernel_rfl
theorem goFn26 : goFn Tryd.prog 26 = true:=by kernel_rfl
theorem goFn27 : goFn Tryd.prog 27 = true:=by kernel_rfl
theorem goFn28 : goFn Tryd.prog 28 = true:=by kernel_rfl
theorem goFn29 : goFn Tryd.prog 29 = true:=by kernel_rfl
theorem goFn30 : goFn Tryd.prog 30 = true:=by kernel_rfl
theorem goFn31 : goFn Tryd.prog 31 = true:=by kernel_rfl
theorem goFn32 : goFn Tryd.prog 32 = true:=by kernel_rfl
theorem goFn33 : goFn Tryd.prog 33 = true:=by kernel_rfl
theorem goFn34 : goFn Tryd.prog 34 = true:=by kernel_rfl
theorem goFn35 : goFn Tryd.prog 35 = true:=by kernel_rfl
theorem goFn36 : goFn Tryd.prog 36 = true:=by kernel_rfl
theorem goFn37 : goFn Tryd.prog 37 = true:=by kernel_rfl
theorem goFn38 : goFn Tryd.prog 38 = true:=by kernel_rfl
theorem goFn39 : goFn Tryd.prog 39 = true:=by kernel_rfl
theorem goFn40 : goFn Tryd.prog 40 = true:=by kernel_rfl
theorem goFn46 : goFn Tryd.prog 46 = true:=by kernel_rfl
theorem goFn47 : goFn Tryd.prog 47 = true:=by kernel_rfl
theorem goFn48 : goFn Tryd.prog 48 = true:=by kernel_rfl
theorem goFn49 : goFn Tryd.prog 49 = true:=by kernel_rfl
theorem goFn50 : goFn Tryd.prog 50 = true:=by kernel_rfl
theorem goFn51 : goFn Tryd.prog 51 = true:=by kernel_rfl
theorem goFn52 : goFn Tryd.prog 52 = true:=by kernel_rfl
theorem goFn62 : goFn Tryd.prog 62 = true:=by kernel_rfl
theorem goFn63 : goFn Tryd.prog 63 = true:=by kernel_rfl
theorem goFn64 : goFn Tryd.prog 64 = true:=by kernel_rfl
theorem goFn65 : goFn Tryd.prog 65 = true:=by kernel_rfl
theorem goFn66 : goFn Tryd.prog 66 = true:=by kernel_rfl
theorem goFn67 : goFn Tryd.prog 67 = true:=by kernel_rfl
theorem goFn77 : goFn Tryd.prog 77 = true:=by kernel_rfl
theorem goFn78 : goFn Tryd.prog 78 = true:=by kernel_rfl
theorem goFn87 : goFn Tryd.prog 87 = true:=by kernel_rfl
theorem goFn88 : goFn Tryd.prog 88 = true:=by kernel_rfl
theorem goFn95 : goFn Tryd.prog 95 = true:=by kernel_rfl
def zn := And.intro Bool.not_true Bool.not_false
def zp.{u} := @List.getElem?_toArray.{u}
def zs.{u, v} := @Option.bind_some.{u, v}
def zl.{u} := @List.toList_toArray.{u}

end Go.Rex
