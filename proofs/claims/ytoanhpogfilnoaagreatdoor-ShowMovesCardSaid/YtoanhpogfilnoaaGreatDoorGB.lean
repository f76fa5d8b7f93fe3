/- Facts on types and functions of the program. -/
import Derived.Test.YtoanhpogfilnoaaGreatDoorS
import Derived.Test.YtoanhpogfilnoaaGreatDoorRexG9
import Derived.Test.YtoanhpogfilnoaaGreatDoorProg
set_option linter.unusedSimpArgs false
set_option linter.unusedVariables false
set_option linter.defProp false
namespace Go.Rex
open Go.Proofs
open Go Go.Rex Go.RowKit
set_option maxRecDepth 100000
theorem ag22 : aggB Tryz.prog 22 = some false:=by kernel_rfl
theorem ag24 : aggB Tryz.prog 24 = some true:=by kernel_rfl
theorem ag27 : aggB Tryz.prog 27 = some false:=by kernel_rfl
theorem ag3 : aggB Tryz.prog 3 = some false:=by kernel_rfl
theorem ag36 : aggB Tryz.prog 36 = some false:=by kernel_rfl
theorem ag4 : aggB Tryz.prog 4 = some false:=by kernel_rfl
theorem ag45 : aggB Tryz.prog 45 = some true:=by kernel_rfl
theorem ag73 : aggB Tryz.prog 73 = some false:=by kernel_rfl
theorem ar48 : arrayOf Tryz.prog 48 = some (2,3):=by kernel_rfl
theorem by3 : bytesT Tryz.prog 3 = 8:=by kernel_rfl
theorem by45 : bytesT Tryz.prog 45 = 40:=by kernel_rfl
theorem cs24 : Tryz.prog.cellsOf 24 = 4:=by kernel_rfl
theorem cs3 : Tryz.prog.cellsOf 3 = 1:=by kernel_rfl
theorem cs45 : Tryz.prog.cellsOf 45 = 3:=by kernel_rfl
theorem cs73 : Tryz.prog.cellsOf 73 = 1:=by kernel_rfl
theorem fd24_0 : fieldT Tryz.prog 24 0 = some (0,22):=by kernel_rfl
theorem fd24_1 : fieldT Tryz.prog 24 1 = some (1,22):=by kernel_rfl
theorem fd24_2 : fieldT Tryz.prog 24 2 = some (2,3):=by kernel_rfl
theorem fd24_3 : fieldT Tryz.prog 24 3 = some (3,3):=by kernel_rfl
theorem fd45_0 : fieldT Tryz.prog 45 0 = some (0,3):=by kernel_rfl
theorem fd45_1 : fieldT Tryz.prog 45 1 = some (1,22):=by kernel_rfl
theorem fd45_2 : fieldT Tryz.prog 45 2 = some (2,3):=by kernel_rfl
theorem ni22 : notInt Tryz.prog (some 22) = true:=by kernel_rfl
theorem ni36 : notInt Tryz.prog (some 36) = true:=by kernel_rfl
theorem ok24 : okT Tryz.prog 24 = true:=by kernel_rfl
theorem ok3 : okT Tryz.prog 3 = true:=by kernel_rfl
theorem ok45 : okT Tryz.prog 45 = true:=by kernel_rfl
theorem ok73 : okT Tryz.prog 73 = true:=by kernel_rfl
theorem so22 : sliceOf Tryz.prog 22 = some 3:=by kernel_rfl
theorem so36 : sliceOf Tryz.prog 36 = some 45:=by kernel_rfl
theorem so48 : sliceOf Tryz.prog 48 = none:=by kernel_rfl
theorem so98 : sliceOf Tryz.prog 98 = some 73:=by kernel_rfl
theorem st24 : structT Tryz.prog 24 = some [(0,1),(1,1),(2,1),(3,1)]:=by kernel_rfl
theorem st45 : structT Tryz.prog 45 = some [(0,1),(1,1),(2,1)]:=by kernel_rfl
theorem wi64_0a1 : IntKind.i64.wrap (0 + 1) = 1:=by decide
theorem wi64_1a1 : IntKind.i64.wrap (1 + 1) = 2:=by decide
theorem wi64_2a1 : IntKind.i64.wrap (2 + 1) = 3:=by decide
theorem wi64_3a1 : IntKind.i64.wrap (3 + 1) = 4:=by decide
theorem wi64_4a1 : IntKind.i64.wrap (4 + 1) = 5:=by decide
theorem zc24 : zeroC Tryz.prog 24 = some [.slice none 0 0,.slice none 0 0,.int .i64 0,.int .i64 0]:=by kernel_rfl
theorem zc3 : zeroC Tryz.prog 3 = some [.int .i64 0]:=by kernel_rfl
theorem zc45 : zeroC Tryz.prog 45 = some [.int .i64 0,.slice none 0 0,.int .i64 0]:=by kernel_rfl
theorem zc73 : zeroC Tryz.prog 73 = some [.nilFunc]:=by kernel_rfl
theorem goFn6 : goFn Tryz.prog 6 = true:=by kernel_rfl
theorem goFn7 : goFn Tryz.prog 7 = true:=by kernel_rfl
theorem goFn8 : goFn Tryz.prog 8 = true:=by kernel_rfl
theorem goFn9 : goFn Tryz.prog 9 = true:=by kernel_rfl
theorem goFn10 : goFn Tryz.prog 10 = true:=by kernel_rfl
theorem goFn11 : goFn Tryz.prog 11 = true:=by kernel_rfl
theorem goFn12 : goFn Tryz.prog 12 = true:=by kernel_rfl
theorem goFn13 : goFn Tryz.prog 13 = true:=by kernel_rfl
theorem goFn14 : goFn Tryz.prog 14 = true:=by kernel_rfl
theorem goFn15 : goFn Tryz.prog 15 = true:=by kernel_rfl
theorem goFn16 : goFn Tryz.prog 16 = true:=by kernel_rfl
theorem goFn17 : goFn Tryz.prog 17 = true:=by kernel_rfl
theorem goFn18 : goFn Tryz.prog 18 = true:=by kernel_rfl
theorem goFn19 : goFn Tryz.prog 19 = true:=by kernel_rfl
theorem goFn20 : goFn Tryz.prog 20 = true:=by kernel_rfl
theorem goFn21 : goFn Tryz.prog 21 = true:=by kernel_rfl
theorem goFn28 : goFn Tryz.prog 28 = true:=by kernel_rfl
theorem goFn29 : goFn Tryz.prog 29 = true:=by kernel_rfl
theorem goFn30 : goFn Tryz.prog 30 = true:=by kernel_rfl
theorem goFn31 : goFn Tryz.prog 31 = true:=by kernel_rfl
theorem goFn32 : goFn Tryz.prog 32 = true:=by kernel_rfl
theorem goFn33 : goFn Tryz.prog 33 = true:=by kernel_rfl
theorem goFn34 : goFn Tryz.prog 34 = true:=by kernel_rfl
theorem goFn35 : goFn Tryz.prog 35 = true:=by kernel_rfl
theorem goFn36 : goFn Tryz.prog 36 = true:=by kernel_rfl
theorem goFn37 : goFn Tryz.prog 37 = true:=by kernel_rfl
theorem goFn38 : goFn Tryz.prog 38 = true:=by kernel_rfl
theorem goFn39 : goFn Tryz.prog 39 = true:=by kernel_rfl
theorem goFn40 : goFn Tryz.prog 40 = true:=by kernel_rfl
theorem goFn41 : goFn Tryz.prog 41 = true:=by kernel_rfl
theorem goFn53 : goFn Tryz.prog 53 = true:=by kernel_rfl
theorem goFn54 : goFn Tryz.prog 54 = true:=by kernel_rfl
theorem goFn55 : goFn Tryz.prog 55 = true:=by kernel_rfl
theorem goFn56 : goFn Tryz.prog 56 = true:=by kernel_rfl
theorem goFn57 : goFn Tryz.prog 57 = true:=by kernel_rfl
theorem goFn58 : goFn Tryz.prog 58 = true:=by kernel_rfl
theorem goFn59 : goFn Tryz.prog 59 = true:=by kernel_rfl
theorem goFn77 : goFn Tryz.prog 77 = true:=by kernel_rfl
def zn := And.intro Bool.not_true Bool.not_false
def zp.{u} := @List.getElem?_toArray.{u}
def zs.{u, v} := @Option.bind_some.{u, v}
def zl.{u} := @List.toList_toArray.{u}

end Go.Rex
