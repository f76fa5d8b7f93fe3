/- Facts on types and functions of the program. -/
import Derived.Test.YtjhneebncpmneaaGreatDoorS
import Derived.Test.YtjhneebncpmneaaGreatDoorRexG10
import Derived.Test.YtjhneebncpmneaaGreatDoorProg
set_option linter.unusedSimpArgs false
set_option linter.unusedVariables false
set_option linter.defProp false
namespace Go.Rex
open Go.Proofs
open Go Go.Rex Go.RowKit
set_option maxRecDepth 100000
theorem ag100 : aggB Tryz.prog 100 = some true:=by kernel_rfl
theorem ag112 : aggB Tryz.prog 112 = some true:=by kernel_rfl
theorem ag122 : aggB Tryz.prog 122 = some false:=by kernel_rfl
theorem ag141 : aggB Tryz.prog 141 = some false:=by kernel_rfl
theorem ag152 : aggB Tryz.prog 152 = some true:=by kernel_rfl
theorem ag162 : aggB Tryz.prog 162 = some true:=by kernel_rfl
theorem ag169 : aggB Tryz.prog 169 = some true:=by kernel_rfl
theorem ag22 : aggB Tryz.prog 22 = some false:=by kernel_rfl
theorem ag24 : aggB Tryz.prog 24 = some true:=by kernel_rfl
theorem ag26 : aggB Tryz.prog 26 = some true:=by kernel_rfl
theorem ag3 : aggB Tryz.prog 3 = some false:=by kernel_rfl
theorem ag30 : aggB Tryz.prog 30 = some true:=by kernel_rfl
theorem ag31 : aggB Tryz.prog 31 = some false:=by kernel_rfl
theorem ag50 : aggB Tryz.prog 50 = some true:=by kernel_rfl
theorem ag60 : aggB Tryz.prog 60 = some true:=by kernel_rfl
theorem ag79 : aggB Tryz.prog 79 = some false:=by kernel_rfl
theorem ag82 : aggB Tryz.prog 82 = some false:=by kernel_rfl
theorem ag94 : aggB Tryz.prog 94 = some true:=by kernel_rfl
theorem ar153 : arrayOf Tryz.prog 153 = some (3,152):=by kernel_rfl
theorem ar170 : arrayOf Tryz.prog 170 = some (4,169):=by kernel_rfl
theorem ar186 : arrayOf Tryz.prog 186 = some (10,3):=by kernel_rfl
theorem ar60 : arrayOf Tryz.prog 60 = some (2,3):=by kernel_rfl
theorem ar_194 : archP Tryz.prog 194 = true:=by kernel_rfl
theorem by100 : bytesT Tryz.prog 100 = 16:=by kernel_rfl
theorem by82 : bytesT Tryz.prog 82 = 4:=by kernel_rfl
theorem cs100 : Tryz.prog.cellsOf 100 = 2:=by kernel_rfl
theorem cs112 : Tryz.prog.cellsOf 112 = 2:=by kernel_rfl
theorem cs141 : Tryz.prog.cellsOf 141 = 1:=by kernel_rfl
theorem cs152 : Tryz.prog.cellsOf 152 = 3:=by kernel_rfl
theorem cs162 : Tryz.prog.cellsOf 162 = 2:=by kernel_rfl
theorem cs169 : Tryz.prog.cellsOf 169 = 2:=by kernel_rfl
theorem cs22 : Tryz.prog.cellsOf 22 = 1:=by kernel_rfl
theorem cs24 : Tryz.prog.cellsOf 24 = 2:=by kernel_rfl
theorem cs26 : Tryz.prog.cellsOf 26 = 4:=by kernel_rfl
theorem cs3 : Tryz.prog.cellsOf 3 = 1:=by kernel_rfl
theorem cs30 : Tryz.prog.cellsOf 30 = 2:=by kernel_rfl
theorem cs31 : Tryz.prog.cellsOf 31 = 1:=by kernel_rfl
theorem cs50 : Tryz.prog.cellsOf 50 = 2:=by kernel_rfl
theorem cs60 : Tryz.prog.cellsOf 60 = 2:=by kernel_rfl
theorem cs82 : Tryz.prog.cellsOf 82 = 1:=by kernel_rfl
theorem cs94 : Tryz.prog.cellsOf 94 = 4:=by kernel_rfl
theorem eqg30 : Program.eqGuardType Tryz.prog Tryz.prog.depth 30 = false:=by kernel_rfl
theorem eqg50 : Program.eqGuardType Tryz.prog Tryz.prog.depth 50 = false:=by kernel_rfl
theorem eqs30 {a0 a1 b0 b1 : Int} : prun Tryz.prog (Op.equal 30 (.agg ⟨[.int .i64 a0,.int .i64 a1]⟩) (.agg ⟨[.int .i64 b0,.int .i64 b1]⟩)) = some ([a0 == b0,a1 == b1].all id):=eq_top (eq_struct Tryz.underlying30 (by kernel_rfl) (EqF.cons (by decide) (part_atom (by kernel_rfl) rfl) (part_atom (by kernel_rfl) rfl) (eq_int (by kernel_rfl)) (EqF.cons (by decide) (part_atom (by kernel_rfl) rfl) (part_atom (by kernel_rfl) rfl) (eq_int (by kernel_rfl)) EqF.nil)))
theorem eqs50 {a0 a1 b0 b1 : Int} : prun Tryz.prog (Op.equal 50 (.agg ⟨[.int .i64 a0,.int .i64 a1]⟩) (.agg ⟨[.int .i64 b0,.int .i64 b1]⟩)) = some ([a0 == b0,a1 == b1].all id):=eq_top (eq_struct Tryz.underlying50 (by kernel_rfl) (EqF.cons (by decide) (part_atom (by kernel_rfl) rfl) (part_atom (by kernel_rfl) rfl) (eq_int (by kernel_rfl)) (EqF.cons (by decide) (part_atom (by kernel_rfl) rfl) (part_atom (by kernel_rfl) rfl) (eq_int (by kernel_rfl)) EqF.nil)))
theorem ex194 : extF Tryz.prog 194 = some (Extern.MathFloor.toIntegral "math.archTrunc" .zero) := by kernel_rfl
theorem ex200 : extF Tryz.prog 200 = some Extern.MathFloatBits.float64frombits:=by kernel_rfl
theorem ex78 : extF Tryz.prog 78 = some Extern.MathFloatBits.float64bits:=by kernel_rfl
theorem fd100_0 : fieldT Tryz.prog 100 0 = some (0,30):=by kernel_rfl
theorem fd112_0 : fieldT Tryz.prog 112 0 = some (0,3):=by kernel_rfl
theorem fd112_1 : fieldT Tryz.prog 112 1 = some (1,3):=by kernel_rfl
theorem fd152_0 : fieldT Tryz.prog 152 0 = some (0,3):=by kernel_rfl
theorem fd152_1 : fieldT Tryz.prog 152 1 = some (1,3):=by kernel_rfl
theorem fd152_2 : fieldT Tryz.prog 152 2 = some (2,3):=by kernel_rfl
theorem fd158_0 : fieldT Tryz.prog 158 0 = some (0,3):=by kernel_rfl
theorem fd158_1 : fieldT Tryz.prog 158 1 = some (1,3):=by kernel_rfl
theorem fd162_0 : fieldT Tryz.prog 162 0 = some (0,122):=by kernel_rfl
theorem fd162_1 : fieldT Tryz.prog 162 1 = some (1,122):=by kernel_rfl
theorem fd169_0 : fieldT Tryz.prog 169 0 = some (0,3):=by kernel_rfl
theorem fd169_1 : fieldT Tryz.prog 169 1 = some (1,3):=by kernel_rfl
theorem fd24_0 : fieldT Tryz.prog 24 0 = some (0,3):=by kernel_rfl
theorem fd24_1 : fieldT Tryz.prog 24 1 = some (1,22):=by kernel_rfl
theorem fd26_0 : fieldT Tryz.prog 26 0 = some (0,24):=by kernel_rfl
theorem fd26_1 : fieldT Tryz.prog 26 1 = some (2,3):=by kernel_rfl
theorem fd26_2 : fieldT Tryz.prog 26 2 = some (3,3):=by kernel_rfl
theorem fd30_0 : fieldT Tryz.prog 30 0 = some (0,3):=by kernel_rfl
theorem fd30_1 : fieldT Tryz.prog 30 1 = some (1,3):=by kernel_rfl
theorem fd50_0 : fieldT Tryz.prog 50 0 = some (0,3):=by kernel_rfl
theorem fd50_1 : fieldT Tryz.prog 50 1 = some (1,3):=by kernel_rfl
theorem fd81_0 : fieldT Tryz.prog 81 0 = some (0,79):=by kernel_rfl
theorem fd81_1 : fieldT Tryz.prog 81 1 = some (1,79):=by kernel_rfl
theorem fd94_0 : fieldT Tryz.prog 94 0 = some (0,26):=by kernel_rfl
theorem ni22 : notInt Tryz.prog (some 22) = true:=by kernel_rfl
theorem ok100 : okT Tryz.prog 100 = true:=by kernel_rfl
theorem ok112 : okT Tryz.prog 112 = true:=by kernel_rfl
theorem ok141 : okT Tryz.prog 141 = true:=by kernel_rfl
theorem ok152 : okT Tryz.prog 152 = true:=by kernel_rfl
theorem ok162 : okT Tryz.prog 162 = true:=by kernel_rfl
theorem ok169 : okT Tryz.prog 169 = true:=by kernel_rfl
theorem ok22 : okT Tryz.prog 22 = true:=by kernel_rfl
theorem ok24 : okT Tryz.prog 24 = true:=by kernel_rfl
theorem ok26 : okT Tryz.prog 26 = true:=by kernel_rfl
theorem ok3 : okT Tryz.prog 3 = true:=by kernel_rfl
theorem ok30 : okT Tryz.prog 30 = true:=by kernel_rfl
theorem ok31 : okT Tryz.prog 31 = true:=by kernel_rfl
theorem ok50 : okT Tryz.prog 50 = true:=by kernel_rfl
theorem ok60 : okT Tryz.prog 60 = true:=by kernel_rfl
theorem ok82 : okT Tryz.prog 82 = true:=by kernel_rfl
theorem ok94 : okT Tryz.prog 94 = true:=by kernel_rfl
theorem so141 : sliceOf Tryz.prog 141 = some 100:=by kernel_rfl
theorem so149 : sliceOf Tryz.prog 149 = some 31:=by kernel_rfl
theorem so153 : sliceOf Tryz.prog 153 = none:=by kernel_rfl
theorem so170 : sliceOf Tryz.prog 170 = none:=by kernel_rfl
theorem so186 : sliceOf Tryz.prog 186 = none:=by kernel_rfl
theorem so22 : sliceOf Tryz.prog 22 = some 82:=by kernel_rfl
theorem so60 : sliceOf Tryz.prog 60 = none:=by kernel_rfl
theorem so79 : sliceOf Tryz.prog 79 = some 3:=by kernel_rfl
theorem st100 : structT Tryz.prog 100 = some [(0,2)]:=by kernel_rfl
theorem st112 : structT Tryz.prog 112 = some [(0,1),(1,1)]:=by kernel_rfl
theorem st158 : structT Tryz.prog 158 = some [(0,1),(1,1)]:=by kernel_rfl
theorem st162 : structT Tryz.prog 162 = some [(0,1),(1,1)]:=by kernel_rfl
theorem st186 : structT Tryz.prog 186 = none:=by kernel_rfl
theorem st24 : structT Tryz.prog 24 = some [(0,1),(1,1)]:=by kernel_rfl
theorem st26 : structT Tryz.prog 26 = some [(0,2),(2,1),(3,1)]:=by kernel_rfl
theorem st30 : structT Tryz.prog 30 = some [(0,1),(1,1)]:=by kernel_rfl
theorem st50 : structT Tryz.prog 50 = some [(0,1),(1,1)]:=by kernel_rfl
theorem st60 : structT Tryz.prog 60 = none:=by kernel_rfl
theorem st94 : structT Tryz.prog 94 = some [(0,4)]:=by kernel_rfl
theorem un121 : Tryz.prog.underlying 121 = some (.float .f64):=by kernel_rfl
theorem un122 : Tryz.prog.underlying 122 = some (.int .u64):=by kernel_rfl
theorem un195 : Tryz.prog.underlying 195 = some (.int .u64):=by kernel_rfl
theorem un3 : Tryz.prog.underlying 3 = some (.int .i64):=by kernel_rfl
theorem un5 : Tryz.prog.underlying 5 = some (.int .u8):=by kernel_rfl
theorem un82 : Tryz.prog.underlying 82 = some (.float .f32):=by kernel_rfl
theorem us9 : Tryz.prog.underlying 9 = some .string:=by kernel_rfl
theorem wi64_0a1 : IntKind.i64.wrap (0 + 1) = 1:=by decide
theorem wi64_0a16 : IntKind.i64.wrap (0 + 16) = 16:=by decide
theorem wi64_0a8 : IntKind.i64.wrap (0 + 8) = 8:=by decide
theorem wi64_0s1 : IntKind.i64.wrap (0 - 1) = (-1):=by decide
theorem wi64_10m1 : IntKind.i64.wrap (10 * 1) = 10:=by decide
theorem wi64_16a8 : IntKind.i64.wrap (16 + 8) = 24:=by decide
theorem wi64_1m10 : IntKind.i64.wrap (1 * 10) = 10:=by decide
theorem wi64_32a16 : IntKind.i64.wrap (32 + 16) = 48:=by decide
theorem wi64_32a8 : IntKind.i64.wrap (32 + 8) = 40:=by decide
theorem wi64_48a8 : IntKind.i64.wrap (48 + 8) = 56:=by decide
theorem wi64_90s1 : IntKind.i64.wrap (90 - 1) = 89:=by decide
theorem wi64_m1s1 : IntKind.i64.wrap ((-1) - 1) = (-2):=by decide
theorem wi64_m90a1 : IntKind.i64.wrap ((-90) + 1) = (-89):=by decide
theorem zc100 : zeroC Tryz.prog 100 = some [.int .i64 0,.int .i64 0]:=by kernel_rfl
theorem zc112 : zeroC Tryz.prog 112 = some [.int .i64 0,.int .i64 0]:=by kernel_rfl
theorem zc141 : zeroC Tryz.prog 141 = some [.slice none 0 0]:=by kernel_rfl
theorem zc152 : zeroC Tryz.prog 152 = some [.int .i64 0,.int .i64 0,.int .i64 0]:=by kernel_rfl
theorem zc158 : zeroC Tryz.prog 158 = some [.int .i64 0,.int .i64 0]:=by kernel_rfl
theorem zc162 : zeroC Tryz.prog 162 = some [.int .u64 0,.int .u64 0]:=by kernel_rfl
theorem zc169 : zeroC Tryz.prog 169 = some [.int .i64 0,.int .i64 0]:=by kernel_rfl
theorem zc186 : zeroC Tryz.prog 186 = some [.int .i64 0,.int .i64 0,.int .i64 0,.int .i64 0,.int .i64 0,.int .i64 0,.int .i64 0,.int .i64 0,.int .i64 0,.int .i64 0]:=by kernel_rfl
theorem zc24 : zeroC Tryz.prog 24 = some [.int .i64 0,.slice none 0 0]:=by kernel_rfl
theorem zc26 : zeroC Tryz.prog 26 = some [.int .i64 0,.slice none 0 0,.int .i64 0,.int .i64 0]:=by kernel_rfl
theorem zc30 : zeroC Tryz.prog 30 = some [.int .i64 0,.int .i64 0]:=by kernel_rfl
theorem zc31 : zeroC Tryz.prog 31 = some [.int .i64 0]:=by kernel_rfl
theorem zc50 : zeroC Tryz.prog 50 = some [.int .i64 0,.int .i64 0]:=by kernel_rfl
theorem zc60 : zeroC Tryz.prog 60 = some [.int .i64 0,.int .i64 0]:=by kernel_rfl
theorem zc82 : zeroC Tryz.prog 82 = some [.float .f32 0]:=by kernel_rfl
theorem zc94 : zeroC Tryz.prog 94 = some [.int .i64 0,.slice none 0 0,.int .i64 0,.int .i64 0]:=by kernel_rfl
theorem goFn12 : goFn Tryz.prog 12 = true:=by kernel_rfl
theorem goFn13 : goFn Tryz.prog 13 = true:=by kernel_rfl
theorem goFn14 : goFn Tryz.prog 14 = true:=by kernel_rfl
theorem goFn15 : goFn Tryz.prog 15 = true:=by kernel_rfl
theorem goFn16 : goFn Tryz.prog 16 = true:=by kernel_rfl
theorem goFn17 : goFn Tryz.prog 17 = true:=by kernel_rfl
theorem goFn18 : goFn Tryz.prog 18 = true:=by kernel_rfl
theorem goFn19 : goFn Tryz.prog 19 = true:=by kernel_rfl
theorem goFn20 : goFn Tryz.prog 20 = true:=by kernel_rfl
theorem goFn21 : goFn Tryz.prog 21 = true:=by kernel_rfl
theorem goFn22 : goFn Tryz.prog 22 = true:=by kernel_rfl
theorem goFn23 : goFn Tryz.prog 23 = true:=by kernel_rfl
theorem goFn24 : goFn Tryz.prog 24 = true:=by kernel_rfl
theorem goFn25 : goFn Tryz.prog 25 = true:=by kernel_rfl
theorem goFn26 : goFn Tryz.prog 26 = true:=by kernel_rfl
theorem goFn27 : goFn Tryz.prog 27 = true:=by kernel_rfl
theorem goFn28 : goFn Tryz.prog 28 = true:=by kernel_rfl
theorem goFn29 : goFn Tryz.prog 29 = true:=by kernel_rfl
theorem goFn30 : goFn Tryz.prog 30 = true:=by kernel_rfl
theorem goFn31 : goFn Tryz.prog 31 = true:=by kernel_rfl
theorem goFn32 : goFn Tryz.prog 32 = true:=by kernel_rfl
theorem goFn33 : goFn Tryz.prog 33 = true:=by kernel_rfl
theorem goFn34 : goFn Tryz.prog 34 = true:=by kernel_rfl
theorem goFn35 : goFn Tryz.prog 35 = true:=by kernel_rfl
theorem goFn36 : goFn Tryz.prog 36 = true:=by kernel_rfl
theorem goFn37 : goFn Tryz.prog 37 = true:=by kernel_rfl
theorem goFn38 : goFn Tryz.prog 38 = true:=by kernel_rfl
theorem goFn39 : goFn Tryz.prog 39 = true:=by kernel_rfl
theorem goFn46 : goFn Tryz.prog 46 = true:=by kernel_rfl
theorem goFn47 : goFn Tryz.prog 47 = true:=by kernel_rfl
theorem goFn48 : goFn Tryz.prog 48 = true:=by kernel_rfl
theorem goFn52 : goFn Tryz.prog 52 = true:=by kernel_rfl
theorem goFn53 : goFn Tryz.prog 53 = true:=by kernel_rfl
theorem goFn54 : goFn Tryz.prog 54 = true:=by kernel_rfl
theorem goFn55 : goFn Tryz.prog 55 = true:=by kernel_rfl
theorem goFn56 : goFn Tryz.prog 56 = true:=by kernel_rfl
theorem goFn57 : goFn Tryz.prog 57 = true:=by kernel_rfl
theorem goFn58 : goFn Tryz.prog 58 = true:=by kernel_rfl
theorem goFn59 : goFn Tryz.prog 59 = true:=by kernel_rfl
theorem goFn60 : goFn Tryz.prog 60 = true:=by kernel_rfl
theorem goFn61 : goFn Tryz.prog 61 = true:=by kernel_rfl
theorem goFn62 : goFn Tryz.prog 62 = true:=by kernel_rfl
theorem goFn63 : goFn Tryz.prog 63 = true:=by kernel_rfl
theorem goFn64 : goFn Tryz.prog 64 = true:=by kernel_rfl
theorem goFn65 : goFn Tryz.prog 65 = true:=by kernel_rfl
theorem goFn66 : goFn Tryz.prog 66 = true:=by kernel_rfl
theorem goFn67 : goFn Tryz.prog 67 = true:=by kernel_rfl
theorem goFn68 : goFn Tryz.prog 68 = true:=by kernel_rfl
theorem goFn69 : goFn Tryz.prog 69 = true:=by kernel_rfl
theorem goFn70 : goFn Tryz.prog 70 = true:=by kernel_rfl
theorem goFn71 : goFn Tryz.prog 71 = true:=by kernel_rfl
theorem goFn72 : goFn Tryz.prog 72 = true:=by kernel_rfl
theorem goFn73 : goFn Tryz.prog 73 = true:=by kernel_rfl
theorem goFn74 : goFn Tryz.prog 74 = true:=by kernel_rfl
theorem goFn75 : goFn Tryz.prog 75 = true:=by kernel_rfl
theorem goFn76 : goFn Tryz.prog 76 = true:=by kernel_rfl
theorem goFn77 : goFn Tryz.prog 77 = true:=by kernel_rfl
theorem goFn79 : goFn Tryz.prog 79 = true:=by kernel_rfl
theorem goFn89 : goFn Tryz.prog 89 = true:=by kernel_rfl
theorem goFn90 : goFn Tryz.prog 90 = true:=by kernel_rfl
theorem goFn91 : goFn Tryz.prog 91 = true:=by kernel_rfl
theorem goFn92 : goFn Tryz.prog 92 = true:=by kernel_rfl
theorem goFn93 : goFn Tryz.prog 93 = true:=by kernel_rfl
theorem goFn95 : goFn Tryz.prog 95 = true:=by kernel_rfl
theorem goFn96 : goFn Tryz.prog 96 = true:=by kernel_rfl
theorem goFn97 : goFn Tryz.prog 97 = true:=by kernel_rfl
theorem goFn98 : goFn Tryz.prog 98 = true:=by kernel_rfl
theorem goFn99 : goFn Tryz.prog 99 = true:=by kernel_rfl
theorem goFn100 : goFn Tryz.prog 100 = true:=by kernel_rfl
theorem goFn101 : goFn Tryz.prog 101 = true:=by kernel_rfl
theorem goFn102 : goFn Tryz.prog 102 = true:=by kernel_rfl
theorem goFn103 : goFn Tryz.prog 103 = true:=by kernel_rfl
theorem goFn104 : goFn Tryz.prog 104 = true:=by kernel_rfl
theorem goFn105 : goFn Tryz.prog 105 = true:=by kernel_rfl
theorem goFn106 : goFn Tryz.prog 106 = true:=by kernel_rfl
theorem goFn107 : goFn Tryz.prog 107 = true:=by kernel_rfl
theorem goFn108 : goFn Tryz.prog 108 = true:=by kernel_rfl
theorem goFn109 : goFn Tryz.prog 109 = true:=by kernel_rfl
theorem goFn110 : goFn Tryz.prog 110 = true:=by kernel_rfl
theorem goFn111 : goFn Tryz.prog 111 = true:=by kernel_rfl
theorem goFn112 : goFn Tryz.prog 112 = true:=by kernel_rfl
theorem goFn113 : goFn Tryz.prog 113 = true:=by kernel_rfl
theorem goFn114 : goFn Tryz.prog 114 = true:=by kernel_rfl
theorem goFn115 : goFn Tryz.prog 115 = true:=by kernel_rfl
theorem goFn116 : goFn Tryz.prog 116 = true:=by kernel_rfl
theorem goFn117 : goFn Tryz.prog 117 = true:=by kernel_rfl
theorem goFn118 : goFn Tryz.prog 118 = true:=by kernel_rfl
theorem goFn119 : goFn Tryz.prog 119 = true:=by kernel_rfl
theorem goFn120 : goFn Tryz.prog 120 = true:=by kernel_rfl
theorem goFn121 : goFn Tryz.prog 121 = true:=by kernel_rfl
theorem goFn122 : goFn Tryz.prog 122 = true:=by kernel_rfl
theorem goFn134 : goFn Tryz.prog 134 = true:=by kernel_rfl
theorem goFn135 : goFn Tryz.prog 135 = true:=by kernel_rfl
theorem goFn136 : goFn Tryz.prog 136 = true:=by kernel_rfl
theorem goFn137 : goFn Tryz.prog 137 = true:=by kernel_rfl
theorem goFn138 : goFn Tryz.prog 138 = true:=by kernel_rfl
theorem goFn139 : goFn Tryz.prog 139 = true:=by kernel_rfl
theorem goFn140 : goFn Tryz.prog 140 = true:=by kernel_rfl
theorem goFn141 : goFn Tryz.prog 141 = true:=by kernel_rfl
theorem goFn142 : goFn Tryz.prog 142 = true:=by kernel_rfl
theorem goFn143 : goFn Tryz.prog 143 = true:=by kernel_rfl
theorem goFn144 : goFn Tryz.prog 144 = true:=by kernel_rfl
theorem goFn145 : goFn Tryz.prog 145 = true:=by kernel_rfl
theorem goFn153 : goFn Tryz.prog 153 = true:=by kernel_rfl
theorem goFn154 : goFn Tryz.prog 154 = true:=by kernel_rfl
theorem goFn155 : goFn Tryz.prog 155 = true:=by kernel_rfl
theorem goFn168 : goFn Tryz.prog 168 = true:=by kernel_rfl
theorem goFn169 : goFn Tryz.prog 169 = true:=by kernel_rfl
theorem goFn181 : goFn Tryz.prog 181 = true:=by kernel_rfl
theorem goFn185 : goFn Tryz.prog 185 = true:=by kernel_rfl
theorem goFn186 : goFn Tryz.prog 186 = true:=by kernel_rfl
theorem goFn196 : goFn Tryz.prog 196 = true:=by kernel_rfl
def zn := And.intro Bool.not_true Bool.not_false
def zp.{u} := @List.getElem?_toArray.{u}
def zs.{u, v} := @Option.bind_some.{u, v}
def zl.{u} := @List.toList_toArray.{u}

end Go.Rex
