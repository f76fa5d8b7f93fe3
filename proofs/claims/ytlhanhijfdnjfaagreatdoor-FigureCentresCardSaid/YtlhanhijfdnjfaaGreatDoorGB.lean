/- Facts on types and functions of the program. -/
import Derived.Test.YtlhanhijfdnjfaaGreatDoorS
import Derived.Test.YtlhanhijfdnjfaaGreatDoorRexG10
import Derived.Test.YtlhanhijfdnjfaaGreatDoorProg
set_option linter.unusedSimpArgs false
set_option linter.unusedVariables false
set_option linter.defProp false
namespace Go.Rex
open Go.Proofs
open Go Go.Rex Go.RowKit
set_option maxRecDepth 100000
theorem ag106 : aggB Tryz.prog 106 = some true:=by kernel_rfl
theorem ag111 : aggB Tryz.prog 111 = some true:=by kernel_rfl
theorem ag117 : aggB Tryz.prog 117 = some false:=by kernel_rfl
theorem ag138 : aggB Tryz.prog 138 = some false:=by kernel_rfl
theorem ag140 : aggB Tryz.prog 140 = some true:=by kernel_rfl
theorem ag22 : aggB Tryz.prog 22 = some false:=by kernel_rfl
theorem ag24 : aggB Tryz.prog 24 = some true:=by kernel_rfl
theorem ag26 : aggB Tryz.prog 26 = some true:=by kernel_rfl
theorem ag29 : aggB Tryz.prog 29 = some false:=by kernel_rfl
theorem ag3 : aggB Tryz.prog 3 = some false:=by kernel_rfl
theorem ag42 : aggB Tryz.prog 42 = some true:=by kernel_rfl
theorem ag45 : aggB Tryz.prog 45 = some true:=by kernel_rfl
theorem ag76 : aggB Tryz.prog 76 = some true:=by kernel_rfl
theorem ag99 : aggB Tryz.prog 99 = some false:=by kernel_rfl
theorem ar_141 : archP Tryz.prog 141 = true:=by kernel_rfl
theorem by111 : bytesT Tryz.prog 111 = 16:=by kernel_rfl
theorem by3 : bytesT Tryz.prog 3 = 8:=by kernel_rfl
theorem by45 : bytesT Tryz.prog 45 = 16:=by kernel_rfl
theorem by99 : bytesT Tryz.prog 99 = 4:=by kernel_rfl
theorem cs106 : Tryz.prog.cellsOf 106 = 4:=by kernel_rfl
theorem cs111 : Tryz.prog.cellsOf 111 = 2:=by kernel_rfl
theorem cs117 : Tryz.prog.cellsOf 117 = 1:=by kernel_rfl
theorem cs140 : Tryz.prog.cellsOf 140 = 2:=by kernel_rfl
theorem cs24 : Tryz.prog.cellsOf 24 = 2:=by kernel_rfl
theorem cs26 : Tryz.prog.cellsOf 26 = 4:=by kernel_rfl
theorem cs29 : Tryz.prog.cellsOf 29 = 1:=by kernel_rfl
theorem cs3 : Tryz.prog.cellsOf 3 = 1:=by kernel_rfl
theorem cs42 : Tryz.prog.cellsOf 42 = 2:=by kernel_rfl
theorem cs45 : Tryz.prog.cellsOf 45 = 2:=by kernel_rfl
theorem cs76 : Tryz.prog.cellsOf 76 = 2:=by kernel_rfl
theorem cs99 : Tryz.prog.cellsOf 99 = 1:=by kernel_rfl
theorem eqg45 : Program.eqGuardType Tryz.prog Tryz.prog.depth 45 = false:=by kernel_rfl
theorem eqg76 : Program.eqGuardType Tryz.prog Tryz.prog.depth 76 = false:=by kernel_rfl
theorem eqs45 {a0 a1 b0 b1 : Int} : prun Tryz.prog (Op.equal 45 (.agg ⟨[.int .i64 a0,.int .i64 a1]⟩) (.agg ⟨[.int .i64 b0,.int .i64 b1]⟩)) = some ([a0 == b0,a1 == b1].all id):=eq_top (eq_struct Tryz.underlying45 (by kernel_rfl) (EqF.cons (by decide) (part_atom (by kernel_rfl) rfl) (part_atom (by kernel_rfl) rfl) (eq_int (by kernel_rfl)) (EqF.cons (by decide) (part_atom (by kernel_rfl) rfl) (part_atom (by kernel_rfl) rfl) (eq_int (by kernel_rfl)) EqF.nil)))
theorem eqs76 {a0 a1 b0 b1 : Int} : prun Tryz.prog (Op.equal 76 (.agg ⟨[.int .i64 a0,.int .i64 a1]⟩) (.agg ⟨[.int .i64 b0,.int .i64 b1]⟩)) = some ([a0 == b0,a1 == b1].all id):=eq_top (eq_struct Tryz.underlying76 (by kernel_rfl) (EqF.cons (by decide) (part_atom (by kernel_rfl) rfl) (part_atom (by kernel_rfl) rfl) (eq_int (by kernel_rfl)) (EqF.cons (by decide) (part_atom (by kernel_rfl) rfl) (part_atom (by kernel_rfl) rfl) (eq_int (by kernel_rfl)) EqF.nil)))
theorem ex141 : extF Tryz.prog 141 = some (Extern.MathFloor.toIntegral "math.archTrunc" .zero) := by kernel_rfl
theorem ex153 : extF Tryz.prog 153 = some Extern.MathFloatBits.float64bits:=by kernel_rfl
theorem ex154 : extF Tryz.prog 154 = some Extern.MathFloatBits.float64frombits:=by kernel_rfl
theorem fd106_0 : fieldT Tryz.prog 106 0 = some (0,26):=by kernel_rfl
theorem fd111_0 : fieldT Tryz.prog 111 0 = some (0,45):=by kernel_rfl
theorem fd140_0 : fieldT Tryz.prog 140 0 = some (0,138):=by kernel_rfl
theorem fd140_1 : fieldT Tryz.prog 140 1 = some (1,138):=by kernel_rfl
theorem fd24_0 : fieldT Tryz.prog 24 0 = some (0,3):=by kernel_rfl
theorem fd24_1 : fieldT Tryz.prog 24 1 = some (1,22):=by kernel_rfl
theorem fd26_0 : fieldT Tryz.prog 26 0 = some (0,24):=by kernel_rfl
theorem fd26_1 : fieldT Tryz.prog 26 1 = some (2,3):=by kernel_rfl
theorem fd26_2 : fieldT Tryz.prog 26 2 = some (3,3):=by kernel_rfl
theorem fd42_0 : fieldT Tryz.prog 42 0 = some (0,3):=by kernel_rfl
theorem fd42_1 : fieldT Tryz.prog 42 1 = some (1,3):=by kernel_rfl
theorem fd45_0 : fieldT Tryz.prog 45 0 = some (0,3):=by kernel_rfl
theorem fd45_1 : fieldT Tryz.prog 45 1 = some (1,3):=by kernel_rfl
theorem fd76_0 : fieldT Tryz.prog 76 0 = some (0,3):=by kernel_rfl
theorem fd76_1 : fieldT Tryz.prog 76 1 = some (1,3):=by kernel_rfl
theorem ni22 : notInt Tryz.prog (some 22) = true:=by kernel_rfl
theorem ni54 : notInt Tryz.prog (some 54) = true:=by kernel_rfl
theorem ni57 : notInt Tryz.prog (some 57) = true:=by kernel_rfl
theorem ok106 : okT Tryz.prog 106 = true:=by kernel_rfl
theorem ok111 : okT Tryz.prog 111 = true:=by kernel_rfl
theorem ok117 : okT Tryz.prog 117 = true:=by kernel_rfl
theorem ok140 : okT Tryz.prog 140 = true:=by kernel_rfl
theorem ok24 : okT Tryz.prog 24 = true:=by kernel_rfl
theorem ok26 : okT Tryz.prog 26 = true:=by kernel_rfl
theorem ok29 : okT Tryz.prog 29 = true:=by kernel_rfl
theorem ok3 : okT Tryz.prog 3 = true:=by kernel_rfl
theorem ok42 : okT Tryz.prog 42 = true:=by kernel_rfl
theorem ok45 : okT Tryz.prog 45 = true:=by kernel_rfl
theorem ok76 : okT Tryz.prog 76 = true:=by kernel_rfl
theorem ok99 : okT Tryz.prog 99 = true:=by kernel_rfl
theorem so117 : sliceOf Tryz.prog 117 = some 111:=by kernel_rfl
theorem so136 : sliceOf Tryz.prog 136 = some 29:=by kernel_rfl
theorem so22 : sliceOf Tryz.prog 22 = some 99:=by kernel_rfl
theorem so54 : sliceOf Tryz.prog 54 = some 3:=by kernel_rfl
theorem so57 : sliceOf Tryz.prog 57 = some 45:=by kernel_rfl
theorem st106 : structT Tryz.prog 106 = some [(0,4)]:=by kernel_rfl
theorem st111 : structT Tryz.prog 111 = some [(0,2)]:=by kernel_rfl
theorem st140 : structT Tryz.prog 140 = some [(0,1),(1,1)]:=by kernel_rfl
theorem st24 : structT Tryz.prog 24 = some [(0,1),(1,1)]:=by kernel_rfl
theorem st26 : structT Tryz.prog 26 = some [(0,2),(2,1),(3,1)]:=by kernel_rfl
theorem st42 : structT Tryz.prog 42 = some [(0,1),(1,1)]:=by kernel_rfl
theorem st45 : structT Tryz.prog 45 = some [(0,1),(1,1)]:=by kernel_rfl
theorem st76 : structT Tryz.prog 76 = some [(0,1),(1,1)]:=by kernel_rfl
theorem un103 : Tryz.prog.underlying 103 = some (.float .f64):=by kernel_rfl
theorem un138 : Tryz.prog.underlying 138 = some (.int .u64):=by kernel_rfl
theorem un176 : Tryz.prog.underlying 176 = some (.int .u64):=by kernel_rfl
theorem un3 : Tryz.prog.underlying 3 = some (.int .i64):=by kernel_rfl
theorem un5 : Tryz.prog.underlying 5 = some (.int .u8):=by kernel_rfl
theorem un99 : Tryz.prog.underlying 99 = some (.float .f32):=by kernel_rfl
theorem us9 : Tryz.prog.underlying 9 = some .string:=by kernel_rfl
theorem wi64_0a1 : IntKind.i64.wrap (0 + 1) = 1:=by decide
theorem wi64_0a16 : IntKind.i64.wrap (0 + 16) = 16:=by decide
theorem wi64_0a8 : IntKind.i64.wrap (0 + 8) = 8:=by decide
theorem wi64_10m1 : IntKind.i64.wrap (10 * 1) = 10:=by decide
theorem wi64_16a8 : IntKind.i64.wrap (16 + 8) = 24:=by decide
theorem wi64_1a1 : IntKind.i64.wrap (1 + 1) = 2:=by decide
theorem wi64_1m10 : IntKind.i64.wrap (1 * 10) = 10:=by decide
theorem wi64_1s1 : IntKind.i64.wrap (1 - 1) = 0:=by decide
theorem wi64_32a16 : IntKind.i64.wrap (32 + 16) = 48:=by decide
theorem wi64_32a8 : IntKind.i64.wrap (32 + 8) = 40:=by decide
theorem wi64_48a8 : IntKind.i64.wrap (48 + 8) = 56:=by decide
theorem zc106 : zeroC Tryz.prog 106 = some [.int .i64 0,.slice none 0 0,.int .i64 0,.int .i64 0]:=by kernel_rfl
theorem zc111 : zeroC Tryz.prog 111 = some [.int .i64 0,.int .i64 0]:=by kernel_rfl
theorem zc117 : zeroC Tryz.prog 117 = some [.slice none 0 0]:=by kernel_rfl
theorem zc140 : zeroC Tryz.prog 140 = some [.int .u64 0,.int .u64 0]:=by kernel_rfl
theorem zc24 : zeroC Tryz.prog 24 = some [.int .i64 0,.slice none 0 0]:=by kernel_rfl
theorem zc26 : zeroC Tryz.prog 26 = some [.int .i64 0,.slice none 0 0,.int .i64 0,.int .i64 0]:=by kernel_rfl
theorem zc29 : zeroC Tryz.prog 29 = some [.int .i64 0]:=by kernel_rfl
theorem zc3 : zeroC Tryz.prog 3 = some [.int .i64 0]:=by kernel_rfl
theorem zc42 : zeroC Tryz.prog 42 = some [.int .i64 0,.int .i64 0]:=by kernel_rfl
theorem zc45 : zeroC Tryz.prog 45 = some [.int .i64 0,.int .i64 0]:=by kernel_rfl
theorem zc76 : zeroC Tryz.prog 76 = some [.int .i64 0,.int .i64 0]:=by kernel_rfl
theorem zc99 : zeroC Tryz.prog 99 = some [.float .f32 0]:=by kernel_rfl
theorem goFn11 : goFn Tryz.prog 11 = true:=by kernel_rfl
theorem goFn12 : goFn Tryz.prog 12 = true:=by kernel_rfl
theorem goFn13 : goFn Tryz.prog 13 = true:=by kernel_rfl
theorem goFn14 : goFn Tryz.prog 14 = true:=by kernel_rfl
theorem goFn15 : goFn Tryz.prog 15 = true:=by kernel_rfl
theorem goFn16 : goFn Tryz.prog 16 = true:=by kernel_rfl
theorem goFn17 : goFn Tryz.prog 17 = true:=by kernel_rfl
theorem goFn18 : goFn Tryz.prog 18 = true:=by kernel_rfl
theorem goFn19 : goFn Tryz.prog 19 = true:=by kernel_rfl
theorem goFn20 : goFn Tryz.prog 20 = true:=by kernel_rfl
theorem goFn21 : goFn Tryz.prog 21 = true:=by kernel_rfl
theorem goFn22 : goFn Tryz.prog 22 = true:=by kernel_rfl
theorem goFn23 : goFn Tryz.prog 23 = true:=by kernel_rfl
theorem goFn24 : goFn Tryz.prog 24 = true:=by kernel_rfl
theorem goFn25 : goFn Tryz.prog 25 = true:=by kernel_rfl
theorem goFn26 : goFn Tryz.prog 26 = true:=by kernel_rfl
theorem goFn27 : goFn Tryz.prog 27 = true:=by kernel_rfl
theorem goFn28 : goFn Tryz.prog 28 = true:=by kernel_rfl
theorem goFn29 : goFn Tryz.prog 29 = true:=by kernel_rfl
theorem goFn30 : goFn Tryz.prog 30 = true:=by kernel_rfl
theorem goFn31 : goFn Tryz.prog 31 = true:=by kernel_rfl
theorem goFn32 : goFn Tryz.prog 32 = true:=by kernel_rfl
theorem goFn33 : goFn Tryz.prog 33 = true:=by kernel_rfl
theorem goFn34 : goFn Tryz.prog 34 = true:=by kernel_rfl
theorem goFn35 : goFn Tryz.prog 35 = true:=by kernel_rfl
theorem goFn36 : goFn Tryz.prog 36 = true:=by kernel_rfl
theorem goFn41 : goFn Tryz.prog 41 = true:=by kernel_rfl
theorem goFn42 : goFn Tryz.prog 42 = true:=by kernel_rfl
theorem goFn43 : goFn Tryz.prog 43 = true:=by kernel_rfl
theorem goFn44 : goFn Tryz.prog 44 = true:=by kernel_rfl
theorem goFn45 : goFn Tryz.prog 45 = true:=by kernel_rfl
theorem goFn46 : goFn Tryz.prog 46 = true:=by kernel_rfl
theorem goFn47 : goFn Tryz.prog 47 = true:=by kernel_rfl
theorem goFn48 : goFn Tryz.prog 48 = true:=by kernel_rfl
theorem goFn49 : goFn Tryz.prog 49 = true:=by kernel_rfl
theorem goFn50 : goFn Tryz.prog 50 = true:=by kernel_rfl
theorem goFn51 : goFn Tryz.prog 51 = true:=by kernel_rfl
theorem goFn57 : goFn Tryz.prog 57 = true:=by kernel_rfl
theorem goFn58 : goFn Tryz.prog 58 = true:=by kernel_rfl
theorem goFn59 : goFn Tryz.prog 59 = true:=by kernel_rfl
theorem goFn60 : goFn Tryz.prog 60 = true:=by kernel_rfl
theorem goFn61 : goFn Tryz.prog 61 = true:=by kernel_rfl
theorem goFn62 : goFn Tryz.prog 62 = true:=by kernel_rfl
theorem goFn63 : goFn Tryz.prog 63 = true:=by kernel_rfl
theorem goFn64 : goFn Tryz.prog 64 = true:=by kernel_rfl
theorem goFn65 : goFn Tryz.prog 65 = true:=by kernel_rfl
theorem goFn66 : goFn Tryz.prog 66 = true:=by kernel_rfl
theorem goFn67 : goFn Tryz.prog 67 = true:=by kernel_rfl
theorem goFn68 : goFn Tryz.prog 68 = true:=by kernel_rfl
theorem goFn69 : goFn Tryz.prog 69 = true:=by kernel_rfl
theorem goFn70 : goFn Tryz.prog 70 = true:=by kernel_rfl
theorem goFn71 : goFn Tryz.prog 71 = true:=by kernel_rfl
theorem goFn72 : goFn Tryz.prog 72 = true:=by kernel_rfl
theorem goFn73 : goFn Tryz.prog 73 = true:=by kernel_rfl
theorem goFn74 : goFn Tryz.prog 74 = true:=by kernel_rfl
theorem goFn75 : goFn Tryz.prog 75 = true:=by kernel_rfl
theorem goFn76 : goFn Tryz.prog 76 = true:=by kernel_rfl
theorem goFn77 : goFn Tryz.prog 77 = true:=by kernel_rfl
theorem goFn78 : goFn Tryz.prog 78 = true:=by kernel_rfl
theorem goFn79 : goFn Tryz.prog 79 = true:=by kernel_rfl
theorem goFn80 : goFn Tryz.prog 80 = true:=by kernel_rfl
theorem goFn84 : goFn Tryz.prog 84 = true:=by kernel_rfl
theorem goFn85 : goFn Tryz.prog 85 = true:=by kernel_rfl
theorem goFn86 : goFn Tryz.prog 86 = true:=by kernel_rfl
theorem goFn87 : goFn Tryz.prog 87 = true:=by kernel_rfl
theorem goFn88 : goFn Tryz.prog 88 = true:=by kernel_rfl
theorem goFn89 : goFn Tryz.prog 89 = true:=by kernel_rfl
theorem goFn90 : goFn Tryz.prog 90 = true:=by kernel_rfl
theorem goFn91 : goFn Tryz.prog 91 = true:=by kernel_rfl
theorem goFn92 : goFn Tryz.prog 92 = true:=by kernel_rfl
theorem goFn99 : goFn Tryz.prog 99 = true:=by kernel_rfl
theorem goFn100 : goFn Tryz.prog 100 = true:=by kernel_rfl
theorem goFn101 : goFn Tryz.prog 101 = true:=by kernel_rfl
theorem goFn102 : goFn Tryz.prog 102 = true:=by kernel_rfl
theorem goFn103 : goFn Tryz.prog 103 = true:=by kernel_rfl
theorem goFn104 : goFn Tryz.prog 104 = true:=by kernel_rfl
theorem goFn105 : goFn Tryz.prog 105 = true:=by kernel_rfl
theorem goFn106 : goFn Tryz.prog 106 = true:=by kernel_rfl
theorem goFn107 : goFn Tryz.prog 107 = true:=by kernel_rfl
theorem goFn109 : goFn Tryz.prog 109 = true:=by kernel_rfl
theorem goFn111 : goFn Tryz.prog 111 = true:=by kernel_rfl
theorem goFn112 : goFn Tryz.prog 112 = true:=by kernel_rfl
theorem goFn113 : goFn Tryz.prog 113 = true:=by kernel_rfl
theorem goFn114 : goFn Tryz.prog 114 = true:=by kernel_rfl
theorem goFn115 : goFn Tryz.prog 115 = true:=by kernel_rfl
theorem goFn116 : goFn Tryz.prog 116 = true:=by kernel_rfl
theorem goFn117 : goFn Tryz.prog 117 = true:=by kernel_rfl
theorem goFn124 : goFn Tryz.prog 124 = true:=by kernel_rfl
theorem goFn125 : goFn Tryz.prog 125 = true:=by kernel_rfl
theorem goFn126 : goFn Tryz.prog 126 = true:=by kernel_rfl
theorem goFn129 : goFn Tryz.prog 129 = true:=by kernel_rfl
theorem goFn130 : goFn Tryz.prog 130 = true:=by kernel_rfl
theorem goFn131 : goFn Tryz.prog 131 = true:=by kernel_rfl
theorem goFn143 : goFn Tryz.prog 143 = true:=by kernel_rfl
theorem goFn144 : goFn Tryz.prog 144 = true:=by kernel_rfl
theorem goFn155 : goFn Tryz.prog 155 = true:=by kernel_rfl
def zn := And.intro Bool.not_true Bool.not_false
def zp.{u} := @List.getElem?_toArray.{u}
def zs.{u, v} := @Option.bind_some.{u, v}
def zl.{u} := @List.toList_toArray.{u}

end Go.Rex
