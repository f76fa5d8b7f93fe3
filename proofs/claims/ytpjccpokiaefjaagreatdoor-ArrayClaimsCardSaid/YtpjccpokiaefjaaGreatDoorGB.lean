/- Facts on types and functions of the program. -/
import Derived.Test.YtpjccpokiaefjaaGreatDoorS
import Derived.Test.YtpjccpokiaefjaaGreatDoorRexG8
import Derived.Test.YtpjccpokiaefjaaGreatDoorProg
set_option linter.unusedSimpArgs false
set_option linter.unusedVariables false
set_option linter.defProp false
namespace Go.Rex
open Go.Proofs
open Go Go.Rex Go.RowKit
set_option maxRecDepth 100000
theorem ag118 : aggB Tryz.prog 118 = some true:=by kernel_rfl
theorem ag121 : aggB Tryz.prog 121 = some false:=by kernel_rfl
theorem ag129 : aggB Tryz.prog 129 = some true:=by kernel_rfl
theorem ag137 : aggB Tryz.prog 137 = some true:=by kernel_rfl
theorem ag158 : aggB Tryz.prog 158 = some true:=by kernel_rfl
theorem ag163 : aggB Tryz.prog 163 = some true:=by kernel_rfl
theorem ag190 : aggB Tryz.prog 190 = some true:=by kernel_rfl
theorem ag195 : aggB Tryz.prog 195 = some false:=by kernel_rfl
theorem ag199 : aggB Tryz.prog 199 = some true:=by kernel_rfl
theorem ag22 : aggB Tryz.prog 22 = some false:=by kernel_rfl
theorem ag24 : aggB Tryz.prog 24 = some true:=by kernel_rfl
theorem ag27 : aggB Tryz.prog 27 = some false:=by kernel_rfl
theorem ag3 : aggB Tryz.prog 3 = some false:=by kernel_rfl
theorem ag38 : aggB Tryz.prog 38 = some true:=by kernel_rfl
theorem ag4 : aggB Tryz.prog 4 = some false:=by kernel_rfl
theorem ag40 : aggB Tryz.prog 40 = some true:=by kernel_rfl
theorem ag43 : aggB Tryz.prog 43 = some true:=by kernel_rfl
theorem ag45 : aggB Tryz.prog 45 = some true:=by kernel_rfl
theorem ag55 : aggB Tryz.prog 55 = some false:=by kernel_rfl
theorem ag58 : aggB Tryz.prog 58 = some true:=by kernel_rfl
theorem ag77 : aggB Tryz.prog 77 = some false:=by kernel_rfl
theorem ag86 : aggB Tryz.prog 86 = some true:=by kernel_rfl
theorem ag87 : aggB Tryz.prog 87 = some false:=by kernel_rfl
theorem ag89 : aggB Tryz.prog 89 = some true:=by kernel_rfl
theorem ag91 : aggB Tryz.prog 91 = some true:=by kernel_rfl
theorem ag93 : aggB Tryz.prog 93 = some true:=by kernel_rfl
theorem ag96 : aggB Tryz.prog 96 = some true:=by kernel_rfl
theorem ar231 : arrayOf Tryz.prog 231 = some (4,55):=by kernel_rfl
theorem ar58 : arrayOf Tryz.prog 58 = some (2,45):=by kernel_rfl
theorem ar96 : arrayOf Tryz.prog 96 = some (2,3):=by kernel_rfl
theorem by190 : bytesT Tryz.prog 190 = 72:=by kernel_rfl
theorem by3 : bytesT Tryz.prog 3 = 8:=by kernel_rfl
theorem by38 : bytesT Tryz.prog 38 = 24:=by kernel_rfl
theorem by40 : bytesT Tryz.prog 40 = 40:=by kernel_rfl
theorem by87 : bytesT Tryz.prog 87 = 24:=by kernel_rfl
theorem cs118 : Tryz.prog.cellsOf 118 = 3:=by kernel_rfl
theorem cs121 : Tryz.prog.cellsOf 121 = 1:=by kernel_rfl
theorem cs129 : Tryz.prog.cellsOf 129 = 6:=by kernel_rfl
theorem cs137 : Tryz.prog.cellsOf 137 = 6:=by kernel_rfl
theorem cs158 : Tryz.prog.cellsOf 158 = 2:=by kernel_rfl
theorem cs163 : Tryz.prog.cellsOf 163 = 2:=by kernel_rfl
theorem cs190 : Tryz.prog.cellsOf 190 = 9:=by kernel_rfl
theorem cs199 : Tryz.prog.cellsOf 199 = 2:=by kernel_rfl
theorem cs22 : Tryz.prog.cellsOf 22 = 1:=by kernel_rfl
theorem cs231 : Tryz.prog.cellsOf 231 = 4:=by kernel_rfl
theorem cs24 : Tryz.prog.cellsOf 24 = 3:=by kernel_rfl
theorem cs3 : Tryz.prog.cellsOf 3 = 1:=by kernel_rfl
theorem cs38 : Tryz.prog.cellsOf 38 = 3:=by kernel_rfl
theorem cs40 : Tryz.prog.cellsOf 40 = 5:=by kernel_rfl
theorem cs43 : Tryz.prog.cellsOf 43 = 2:=by kernel_rfl
theorem cs45 : Tryz.prog.cellsOf 45 = 2:=by kernel_rfl
theorem cs55 : Tryz.prog.cellsOf 55 = 1:=by kernel_rfl
theorem cs58 : Tryz.prog.cellsOf 58 = 4:=by kernel_rfl
theorem cs77 : Tryz.prog.cellsOf 77 = 1:=by kernel_rfl
theorem cs86 : Tryz.prog.cellsOf 86 = 2:=by kernel_rfl
theorem cs87 : Tryz.prog.cellsOf 87 = 1:=by kernel_rfl
theorem cs89 : Tryz.prog.cellsOf 89 = 2:=by kernel_rfl
theorem cs91 : Tryz.prog.cellsOf 91 = 4:=by kernel_rfl
theorem cs93 : Tryz.prog.cellsOf 93 = 6:=by kernel_rfl
theorem cs96 : Tryz.prog.cellsOf 96 = 2:=by kernel_rfl
theorem eqg40 : Program.eqGuardType Tryz.prog Tryz.prog.depth 40 = false:=by kernel_rfl
theorem eqg45 : Program.eqGuardType Tryz.prog Tryz.prog.depth 45 = false:=by kernel_rfl
theorem eqg58 : Program.eqGuardType Tryz.prog Tryz.prog.depth 58 = false:=by kernel_rfl
theorem eqg96 : Program.eqGuardType Tryz.prog Tryz.prog.depth 96 = false:=by kernel_rfl
theorem eqs40 {a0 a1 a2 a3 a4 b0 b1 b2 b3 b4 : Int} : prun Tryz.prog (Op.equal 40 (.agg ⟨[.int .i64 a0,.int .i64 a1,.int .i64 a2,.int .i64 a3,.int .i64 a4]⟩) (.agg ⟨[.int .i64 b0,.int .i64 b1,.int .i64 b2,.int .i64 b3,.int .i64 b4]⟩)) = some ([[a0 == b0,a1 == b1,a2 == b2].all id,a3 == b3,a4 == b4].all id):=eq_top (eq_struct Tryz.underlying40 (by kernel_rfl) (EqF.cons (by decide) (part_agg (n:=3) (v:=(.agg ⟨[.int .i64 a0,.int .i64 a1,.int .i64 a2]⟩)) (by kernel_rfl) (by kernel_rfl) rfl) (part_agg (n:=3) (v:=(.agg ⟨[.int .i64 b0,.int .i64 b1,.int .i64 b2]⟩)) (by kernel_rfl) (by kernel_rfl) rfl) (eq_struct Tryz.underlying38 (by kernel_rfl) (EqF.cons (by decide) (part_atom (by kernel_rfl) rfl) (part_atom (by kernel_rfl) rfl) (eq_int (by kernel_rfl)) (EqF.cons (by decide) (part_atom (by kernel_rfl) rfl) (part_atom (by kernel_rfl) rfl) (eq_int (by kernel_rfl)) (EqF.cons (by decide) (part_atom (by kernel_rfl) rfl) (part_atom (by kernel_rfl) rfl) (eq_int (by kernel_rfl)) EqF.nil)))) (EqF.cons (by decide) (part_atom (by kernel_rfl) rfl) (part_atom (by kernel_rfl) rfl) (eq_int (by kernel_rfl)) (EqF.cons (by decide) (part_atom (by kernel_rfl) rfl) (part_atom (by kernel_rfl) rfl) (eq_int (by kernel_rfl)) EqF.nil))))
theorem eqs45 {a0 a1 b0 b1 : Int} : prun Tryz.prog (Op.equal 45 (.agg ⟨[.int .i64 a0,.int .i64 a1]⟩) (.agg ⟨[.int .i64 b0,.int .i64 b1]⟩)) = some ([a0 == b0,a1 == b1].all id):=eq_top (eq_struct Tryz.underlying45 (by kernel_rfl) (EqF.cons (by decide) (part_atom (by kernel_rfl) rfl) (part_atom (by kernel_rfl) rfl) (eq_int (by kernel_rfl)) (EqF.cons (by decide) (part_atom (by kernel_rfl) rfl) (part_atom (by kernel_rfl) rfl) (eq_int (by kernel_rfl)) EqF.nil)))
theorem eqs58 {a0 a1 a2 a3 b0 b1 b2 b3 : Int} : prun Tryz.prog (Op.equal 58 (.agg ⟨[.int .i64 a0,.int .i64 a1,.int .i64 a2,.int .i64 a3]⟩) (.agg ⟨[.int .i64 b0,.int .i64 b1,.int .i64 b2,.int .i64 b3]⟩)) = some ([[a0 == b0,a1 == b1].all id,[a2 == b2,a3 == b3].all id].all id):=eq_top (eq_array (n:=2) Tryz.underlying58 (by kernel_rfl) (EqI.cons (part_agg (n:=2) (v:=(.agg ⟨[.int .i64 a0,.int .i64 a1]⟩)) (by kernel_rfl) (by kernel_rfl) rfl) (part_agg (n:=2) (v:=(.agg ⟨[.int .i64 b0,.int .i64 b1]⟩)) (by kernel_rfl) (by kernel_rfl) rfl) (eq_struct Tryz.underlying45 (by kernel_rfl) (EqF.cons (by decide) (part_atom (by kernel_rfl) rfl) (part_atom (by kernel_rfl) rfl) (eq_int (by kernel_rfl)) (EqF.cons (by decide) (part_atom (by kernel_rfl) rfl) (part_atom (by kernel_rfl) rfl) (eq_int (by kernel_rfl)) EqF.nil))) (EqI.cons (part_agg (n:=2) (v:=(.agg ⟨[.int .i64 a2,.int .i64 a3]⟩)) (by kernel_rfl) (by kernel_rfl) rfl) (part_agg (n:=2) (v:=(.agg ⟨[.int .i64 b2,.int .i64 b3]⟩)) (by kernel_rfl) (by kernel_rfl) rfl) (eq_struct Tryz.underlying45 (by kernel_rfl) (EqF.cons (by decide) (part_atom (by kernel_rfl) rfl) (part_atom (by kernel_rfl) rfl) (eq_int (by kernel_rfl)) (EqF.cons (by decide) (part_atom (by kernel_rfl) rfl) (part_atom (by kernel_rfl) rfl) (eq_int (by kernel_rfl)) EqF.nil))) (EqI.nil _))) rfl)
theorem eqs96 {a0 a1 b0 b1 : Int} : prun Tryz.prog (Op.equal 96 (.agg ⟨[.int .i64 a0,.int .i64 a1]⟩) (.agg ⟨[.int .i64 b0,.int .i64 b1]⟩)) = some ([a0 == b0,a1 == b1].all id):=eq_top (eq_array (n:=1) Tryz.underlying96 (by kernel_rfl) (EqI.cons (part_atom (by kernel_rfl) rfl) (part_atom (by kernel_rfl) rfl) (eq_int (by kernel_rfl)) (EqI.cons (part_atom (by kernel_rfl) rfl) (part_atom (by kernel_rfl) rfl) (eq_int (by kernel_rfl)) (EqI.nil _))) rfl)
theorem ex91 : extF Tryz.prog 91 = some Extern.MathFloatBits.float64bits:=by kernel_rfl
theorem fd118_0 : fieldT Tryz.prog 118 0 = some (0,24):=by kernel_rfl
theorem fd129_0 : fieldT Tryz.prog 129 0 = some (0,38):=by kernel_rfl
theorem fd129_1 : fieldT Tryz.prog 129 1 = some (3,38):=by kernel_rfl
theorem fd137_0 : fieldT Tryz.prog 137 0 = some (0,118):=by kernel_rfl
theorem fd137_1 : fieldT Tryz.prog 137 1 = some (3,38):=by kernel_rfl
theorem fd158_0 : fieldT Tryz.prog 158 0 = some (0,86):=by kernel_rfl
theorem fd163_0 : fieldT Tryz.prog 163 0 = some (0,3):=by kernel_rfl
theorem fd163_1 : fieldT Tryz.prog 163 1 = some (1,3):=by kernel_rfl
theorem fd190_0 : fieldT Tryz.prog 190 0 = some (0,40):=by kernel_rfl
theorem fd190_1 : fieldT Tryz.prog 190 1 = some (5,45):=by kernel_rfl
theorem fd190_2 : fieldT Tryz.prog 190 2 = some (7,45):=by kernel_rfl
theorem fd199_0 : fieldT Tryz.prog 199 0 = some (0,3):=by kernel_rfl
theorem fd199_1 : fieldT Tryz.prog 199 1 = some (1,3):=by kernel_rfl
theorem fd24_0 : fieldT Tryz.prog 24 0 = some (0,3):=by kernel_rfl
theorem fd24_1 : fieldT Tryz.prog 24 1 = some (1,3):=by kernel_rfl
theorem fd24_2 : fieldT Tryz.prog 24 2 = some (2,22):=by kernel_rfl
theorem fd38_0 : fieldT Tryz.prog 38 0 = some (0,3):=by kernel_rfl
theorem fd38_1 : fieldT Tryz.prog 38 1 = some (1,3):=by kernel_rfl
theorem fd38_2 : fieldT Tryz.prog 38 2 = some (2,3):=by kernel_rfl
theorem fd40_0 : fieldT Tryz.prog 40 0 = some (0,38):=by kernel_rfl
theorem fd40_1 : fieldT Tryz.prog 40 1 = some (3,3):=by kernel_rfl
theorem fd40_2 : fieldT Tryz.prog 40 2 = some (4,3):=by kernel_rfl
theorem fd43_0 : fieldT Tryz.prog 43 0 = some (0,3):=by kernel_rfl
theorem fd43_1 : fieldT Tryz.prog 43 1 = some (1,3):=by kernel_rfl
theorem fd45_0 : fieldT Tryz.prog 45 0 = some (0,3):=by kernel_rfl
theorem fd45_1 : fieldT Tryz.prog 45 1 = some (1,3):=by kernel_rfl
theorem fd86_0 : fieldT Tryz.prog 86 0 = some (0,77):=by kernel_rfl
theorem fd86_1 : fieldT Tryz.prog 86 1 = some (1,3):=by kernel_rfl
theorem fd89_0 : fieldT Tryz.prog 89 0 = some (0,3):=by kernel_rfl
theorem fd89_1 : fieldT Tryz.prog 89 1 = some (1,87):=by kernel_rfl
theorem fd91_0 : fieldT Tryz.prog 91 0 = some (0,3):=by kernel_rfl
theorem fd91_1 : fieldT Tryz.prog 91 1 = some (1,87):=by kernel_rfl
theorem fd91_2 : fieldT Tryz.prog 91 2 = some (2,87):=by kernel_rfl
theorem fd91_3 : fieldT Tryz.prog 91 3 = some (3,87):=by kernel_rfl
theorem fd93_0 : fieldT Tryz.prog 93 0 = some (0,89):=by kernel_rfl
theorem fd93_1 : fieldT Tryz.prog 93 1 = some (2,91):=by kernel_rfl
theorem ni187 : notInt Tryz.prog (some 187) = true:=by kernel_rfl
theorem ni22 : notInt Tryz.prog (some 22) = true:=by kernel_rfl
theorem ni76 : notInt Tryz.prog (some 76) = true:=by kernel_rfl
theorem ni77 : notInt Tryz.prog (some 77) = true:=by kernel_rfl
theorem ni87 : notInt Tryz.prog (some 87) = true:=by kernel_rfl
theorem ok118 : okT Tryz.prog 118 = true:=by kernel_rfl
theorem ok121 : okT Tryz.prog 121 = true:=by kernel_rfl
theorem ok129 : okT Tryz.prog 129 = true:=by kernel_rfl
theorem ok137 : okT Tryz.prog 137 = true:=by kernel_rfl
theorem ok158 : okT Tryz.prog 158 = true:=by kernel_rfl
theorem ok163 : okT Tryz.prog 163 = true:=by kernel_rfl
theorem ok190 : okT Tryz.prog 190 = true:=by kernel_rfl
theorem ok199 : okT Tryz.prog 199 = true:=by kernel_rfl
theorem ok22 : okT Tryz.prog 22 = true:=by kernel_rfl
theorem ok231 : okT Tryz.prog 231 = true:=by kernel_rfl
theorem ok24 : okT Tryz.prog 24 = true:=by kernel_rfl
theorem ok3 : okT Tryz.prog 3 = true:=by kernel_rfl
theorem ok38 : okT Tryz.prog 38 = true:=by kernel_rfl
theorem ok40 : okT Tryz.prog 40 = true:=by kernel_rfl
theorem ok43 : okT Tryz.prog 43 = true:=by kernel_rfl
theorem ok45 : okT Tryz.prog 45 = true:=by kernel_rfl
theorem ok55 : okT Tryz.prog 55 = true:=by kernel_rfl
theorem ok58 : okT Tryz.prog 58 = true:=by kernel_rfl
theorem ok77 : okT Tryz.prog 77 = true:=by kernel_rfl
theorem ok86 : okT Tryz.prog 86 = true:=by kernel_rfl
theorem ok87 : okT Tryz.prog 87 = true:=by kernel_rfl
theorem ok89 : okT Tryz.prog 89 = true:=by kernel_rfl
theorem ok91 : okT Tryz.prog 91 = true:=by kernel_rfl
theorem ok93 : okT Tryz.prog 93 = true:=by kernel_rfl
theorem ok96 : okT Tryz.prog 96 = true:=by kernel_rfl
theorem so182 : sliceOf Tryz.prog 182 = some 121:=by kernel_rfl
theorem so187 : sliceOf Tryz.prog 187 = some 190:=by kernel_rfl
theorem so22 : sliceOf Tryz.prog 22 = some 40:=by kernel_rfl
theorem so231 : sliceOf Tryz.prog 231 = none:=by kernel_rfl
theorem so58 : sliceOf Tryz.prog 58 = none:=by kernel_rfl
theorem so76 : sliceOf Tryz.prog 76 = some 38:=by kernel_rfl
theorem so77 : sliceOf Tryz.prog 77 = some 87:=by kernel_rfl
theorem so87 : sliceOf Tryz.prog 87 = some 3:=by kernel_rfl
theorem so96 : sliceOf Tryz.prog 96 = none:=by kernel_rfl
theorem st118 : structT Tryz.prog 118 = some [(0,3)]:=by kernel_rfl
theorem st129 : structT Tryz.prog 129 = some [(0,3),(3,3)]:=by kernel_rfl
theorem st137 : structT Tryz.prog 137 = some [(0,3),(3,3)]:=by kernel_rfl
theorem st158 : structT Tryz.prog 158 = some [(0,2)]:=by kernel_rfl
theorem st163 : structT Tryz.prog 163 = some [(0,1),(1,1)]:=by kernel_rfl
theorem st190 : structT Tryz.prog 190 = some [(0,5),(5,2),(7,2)]:=by kernel_rfl
theorem st199 : structT Tryz.prog 199 = some [(0,1),(1,1)]:=by kernel_rfl
theorem st231 : structT Tryz.prog 231 = none:=by kernel_rfl
theorem st24 : structT Tryz.prog 24 = some [(0,1),(1,1),(2,1)]:=by kernel_rfl
theorem st43 : structT Tryz.prog 43 = some [(0,1),(1,1)]:=by kernel_rfl
theorem st45 : structT Tryz.prog 45 = some [(0,1),(1,1)]:=by kernel_rfl
theorem st58 : structT Tryz.prog 58 = none:=by kernel_rfl
theorem st96 : structT Tryz.prog 96 = none:=by kernel_rfl
theorem un145 : Tryz.prog.underlying 145 = some (.float .f64):=by kernel_rfl
theorem un219 : Tryz.prog.underlying 219 = some (.int .u64):=by kernel_rfl
theorem un3 : Tryz.prog.underlying 3 = some (.int .i64):=by kernel_rfl
theorem wi64_0a1 : IntKind.i64.wrap (0 + 1) = 1:=by decide
theorem wi64_0a1073741824 : IntKind.i64.wrap (0 + 1073741824) = 1073741824:=by decide
theorem wi64_1073741824m1073741824 : IntKind.i64.wrap (1073741824 * 1073741824) = 1152921504606846976:=by decide
theorem wi64_1a1 : IntKind.i64.wrap (1 + 1) = 2:=by decide
theorem wi64_2a1 : IntKind.i64.wrap (2 + 1) = 3:=by decide
theorem wi64_3a1 : IntKind.i64.wrap (3 + 1) = 4:=by decide
theorem wi64_4a1 : IntKind.i64.wrap (4 + 1) = 5:=by decide
theorem wi64_5a1 : IntKind.i64.wrap (5 + 1) = 6:=by decide
theorem zc118 : zeroC Tryz.prog 118 = some [.int .i64 0,.int .i64 0,.slice none 0 0]:=by kernel_rfl
theorem zc121 : zeroC Tryz.prog 121 = some [.nilFunc]:=by kernel_rfl
theorem zc129 : zeroC Tryz.prog 129 = some [.int .i64 0,.int .i64 0,.int .i64 0,.int .i64 0,.int .i64 0,.int .i64 0]:=by kernel_rfl
theorem zc137 : zeroC Tryz.prog 137 = some [.int .i64 0,.int .i64 0,.slice none 0 0,.int .i64 0,.int .i64 0,.int .i64 0]:=by kernel_rfl
theorem zc158 : zeroC Tryz.prog 158 = some [.slice none 0 0,.int .i64 0]:=by kernel_rfl
theorem zc163 : zeroC Tryz.prog 163 = some [.int .i64 0,.int .i64 0]:=by kernel_rfl
theorem zc190 : zeroC Tryz.prog 190 = some [.int .i64 0,.int .i64 0,.int .i64 0,.int .i64 0,.int .i64 0,.int .i64 0,.int .i64 0,.int .i64 0,.int .i64 0]:=by kernel_rfl
theorem zc199 : zeroC Tryz.prog 199 = some [.int .i64 0,.int .i64 0]:=by kernel_rfl
theorem zc231 : zeroC Tryz.prog 231 = some [.complex .f64 0 0,.complex .f64 0 0,.complex .f64 0 0,.complex .f64 0 0]:=by kernel_rfl
theorem zc24 : zeroC Tryz.prog 24 = some [.int .i64 0,.int .i64 0,.slice none 0 0]:=by kernel_rfl
theorem zc3 : zeroC Tryz.prog 3 = some [.int .i64 0]:=by kernel_rfl
theorem zc38 : zeroC Tryz.prog 38 = some [.int .i64 0,.int .i64 0,.int .i64 0]:=by kernel_rfl
theorem zc40 : zeroC Tryz.prog 40 = some [.int .i64 0,.int .i64 0,.int .i64 0,.int .i64 0,.int .i64 0]:=by kernel_rfl
theorem zc43 : zeroC Tryz.prog 43 = some [.int .i64 0,.int .i64 0]:=by kernel_rfl
theorem zc45 : zeroC Tryz.prog 45 = some [.int .i64 0,.int .i64 0]:=by kernel_rfl
theorem zc58 : zeroC Tryz.prog 58 = some [.int .i64 0,.int .i64 0,.int .i64 0,.int .i64 0]:=by kernel_rfl
theorem zc86 : zeroC Tryz.prog 86 = some [.slice none 0 0,.int .i64 0]:=by kernel_rfl
theorem zc87 : zeroC Tryz.prog 87 = some [.slice none 0 0]:=by kernel_rfl
theorem zc89 : zeroC Tryz.prog 89 = some [.int .i64 0,.slice none 0 0]:=by kernel_rfl
theorem zc91 : zeroC Tryz.prog 91 = some [.int .i64 0,.slice none 0 0,.slice none 0 0,.slice none 0 0]:=by kernel_rfl
theorem zc96 : zeroC Tryz.prog 96 = some [.int .i64 0,.int .i64 0]:=by kernel_rfl
theorem goFn11 : goFn Tryz.prog 11 = true:=by kernel_rfl
theorem goFn12 : goFn Tryz.prog 12 = true:=by kernel_rfl
theorem goFn13 : goFn Tryz.prog 13 = true:=by kernel_rfl
theorem goFn14 : goFn Tryz.prog 14 = true:=by kernel_rfl
theorem goFn15 : goFn Tryz.prog 15 = true:=by kernel_rfl
theorem goFn16 : goFn Tryz.prog 16 = true:=by kernel_rfl
theorem goFn17 : goFn Tryz.prog 17 = true:=by kernel_rfl
theorem goFn18 : goFn Tryz.prog 18 = true:=by kernel_rfl
theorem goFn19 : goFn Tryz.prog 19 = true:=by kernel_rfl
theorem goFn20 : goFn Tryz.prog 20 = true:=by kernel_rfl
theorem goFn21 : goFn Tryz.prog 21 = true:=by kernel_rfl
theorem goFn22 : goFn Tryz.prog 22 = true:=by kernel_rfl
theorem goFn23 : goFn Tryz.prog 23 = true:=by kernel_rfl
theorem goFn24 : goFn Tryz.prog 24 = true:=by kernel_rfl
theorem goFn25 : goFn Tryz.prog 25 = true:=by kernel_rfl
theorem goFn26 : goFn Tryz.prog 26 = true:=by kernel_rfl
theorem goFn27 : goFn Tryz.prog 27 = true:=by kernel_rfl
theorem goFn28 : goFn Tryz.prog 28 = true:=by kernel_rfl
theorem goFn29 : goFn Tryz.prog 29 = true:=by kernel_rfl
theorem goFn30 : goFn Tryz.prog 30 = true:=by kernel_rfl
theorem goFn31 : goFn Tryz.prog 31 = true:=by kernel_rfl
theorem goFn32 : goFn Tryz.prog 32 = true:=by kernel_rfl
theorem goFn33 : goFn Tryz.prog 33 = true:=by kernel_rfl
theorem goFn34 : goFn Tryz.prog 34 = true:=by kernel_rfl
theorem goFn35 : goFn Tryz.prog 35 = true:=by kernel_rfl
theorem goFn36 : goFn Tryz.prog 36 = true:=by kernel_rfl
theorem goFn37 : goFn Tryz.prog 37 = true:=by kernel_rfl
theorem goFn38 : goFn Tryz.prog 38 = true:=by kernel_rfl
theorem goFn39 : goFn Tryz.prog 39 = true:=by kernel_rfl
theorem goFn40 : goFn Tryz.prog 40 = true:=by kernel_rfl
theorem goFn41 : goFn Tryz.prog 41 = true:=by kernel_rfl
theorem goFn42 : goFn Tryz.prog 42 = true:=by kernel_rfl
theorem goFn43 : goFn Tryz.prog 43 = true:=by kernel_rfl
theorem goFn44 : goFn Tryz.prog 44 = true:=by kernel_rfl
theorem goFn45 : goFn Tryz.prog 45 = true:=by kernel_rfl
theorem goFn46 : goFn Tryz.prog 46 = true:=by kernel_rfl
theorem goFn47 : goFn Tryz.prog 47 = true:=by kernel_rfl
theorem goFn48 : goFn Tryz.prog 48 = true:=by kernel_rfl
theorem goFn49 : goFn Tryz.prog 49 = true:=by kernel_rfl
theorem goFn50 : goFn Tryz.prog 50 = true:=by kernel_rfl
theorem goFn51 : goFn Tryz.prog 51 = true:=by kernel_rfl
theorem goFn52 : goFn Tryz.prog 52 = true:=by kernel_rfl
theorem goFn53 : goFn Tryz.prog 53 = true:=by kernel_rfl
theorem goFn54 : goFn Tryz.prog 54 = true:=by kernel_rfl
theorem goFn55 : goFn Tryz.prog 55 = true:=by kernel_rfl
theorem goFn56 : goFn Tryz.prog 56 = true:=by kernel_rfl
theorem goFn57 : goFn Tryz.prog 57 = true:=by kernel_rfl
theorem goFn58 : goFn Tryz.prog 58 = true:=by kernel_rfl
theorem goFn59 : goFn Tryz.prog 59 = true:=by kernel_rfl
theorem goFn63 : goFn Tryz.prog 63 = true:=by kernel_rfl
theorem goFn64 : goFn Tryz.prog 64 = true:=by kernel_rfl
theorem goFn65 : goFn Tryz.prog 65 = true:=by kernel_rfl
theorem goFn66 : goFn Tryz.prog 66 = true:=by kernel_rfl
theorem goFn67 : goFn Tryz.prog 67 = true:=by kernel_rfl
theorem goFn68 : goFn Tryz.prog 68 = true:=by kernel_rfl
theorem goFn69 : goFn Tryz.prog 69 = true:=by kernel_rfl
theorem goFn70 : goFn Tryz.prog 70 = true:=by kernel_rfl
theorem goFn71 : goFn Tryz.prog 71 = true:=by kernel_rfl
theorem goFn72 : goFn Tryz.prog 72 = true:=by kernel_rfl
theorem goFn73 : goFn Tryz.prog 73 = true:=by kernel_rfl
theorem goFn74 : goFn Tryz.prog 74 = true:=by kernel_rfl
theorem goFn75 : goFn Tryz.prog 75 = true:=by kernel_rfl
theorem goFn76 : goFn Tryz.prog 76 = true:=by kernel_rfl
theorem goFn77 : goFn Tryz.prog 77 = true:=by kernel_rfl
theorem goFn78 : goFn Tryz.prog 78 = true:=by kernel_rfl
theorem goFn79 : goFn Tryz.prog 79 = true:=by kernel_rfl
theorem goFn80 : goFn Tryz.prog 80 = true:=by kernel_rfl
theorem goFn81 : goFn Tryz.prog 81 = true:=by kernel_rfl
theorem goFn82 : goFn Tryz.prog 82 = true:=by kernel_rfl
theorem goFn83 : goFn Tryz.prog 83 = true:=by kernel_rfl
theorem goFn84 : goFn Tryz.prog 84 = true:=by kernel_rfl
theorem goFn85 : goFn Tryz.prog 85 = true:=by kernel_rfl
theorem goFn86 : goFn Tryz.prog 86 = true:=by kernel_rfl
theorem goFn87 : goFn Tryz.prog 87 = true:=by kernel_rfl
theorem goFn88 : goFn Tryz.prog 88 = true:=by kernel_rfl
theorem goFn89 : goFn Tryz.prog 89 = true:=by kernel_rfl
theorem goFn90 : goFn Tryz.prog 90 = true:=by kernel_rfl
theorem goFn92 : goFn Tryz.prog 92 = true:=by kernel_rfl
theorem goFn93 : goFn Tryz.prog 93 = true:=by kernel_rfl
theorem goFn94 : goFn Tryz.prog 94 = true:=by kernel_rfl
theorem goFn95 : goFn Tryz.prog 95 = true:=by kernel_rfl
theorem goFn96 : goFn Tryz.prog 96 = true:=by kernel_rfl
theorem goFn97 : goFn Tryz.prog 97 = true:=by kernel_rfl
theorem goFn98 : goFn Tryz.prog 98 = true:=by kernel_rfl
theorem goFn99 : goFn Tryz.prog 99 = true:=by kernel_rfl
theorem goFn100 : goFn Tryz.prog 100 = true:=by kernel_rfl
theorem goFn101 : goFn Tryz.prog 101 = true:=by kernel_rfl
theorem goFn102 : goFn Tryz.prog 102 = true:=by kernel_rfl
theorem goFn103 : goFn Tryz.prog 103 = true:=by kernel_rfl
theorem goFn104 : goFn Tryz.prog 104 = true:=by kernel_rfl
theorem goFn105 : goFn Tryz.prog 105 = true:=by kernel_rfl
theorem goFn106 : goFn Tryz.prog 106 = true:=by kernel_rfl
theorem goFn107 : goFn Tryz.prog 107 = true:=by kernel_rfl
theorem goFn108 : goFn Tryz.prog 108 = true:=by kernel_rfl
theorem goFn109 : goFn Tryz.prog 109 = true:=by kernel_rfl
theorem goFn110 : goFn Tryz.prog 110 = true:=by kernel_rfl
theorem goFn111 : goFn Tryz.prog 111 = true:=by kernel_rfl
theorem goFn112 : goFn Tryz.prog 112 = true:=by kernel_rfl
theorem goFn113 : goFn Tryz.prog 113 = true:=by kernel_rfl
theorem goFn114 : goFn Tryz.prog 114 = true:=by kernel_rfl
theorem goFn115 : goFn Tryz.prog 115 = true:=by kernel_rfl
theorem goFn122 : goFn Tryz.prog 122 = true:=by kernel_rfl
theorem goFn123 : goFn Tryz.prog 123 = true:=by kernel_rfl
theorem goFn124 : goFn Tryz.prog 124 = true:=by kernel_rfl
theorem goFn125 : goFn Tryz.prog 125 = true:=by kernel_rfl
theorem goFn126 : goFn Tryz.prog 126 = true:=by kernel_rfl
theorem goFn127 : goFn Tryz.prog 127 = true:=by kernel_rfl
theorem goFn128 : goFn Tryz.prog 128 = true:=by kernel_rfl
theorem goFn129 : goFn Tryz.prog 129 = true:=by kernel_rfl
theorem goFn130 : goFn Tryz.prog 130 = true:=by kernel_rfl
theorem goFn131 : goFn Tryz.prog 131 = true:=by kernel_rfl
theorem goFn132 : goFn Tryz.prog 132 = true:=by kernel_rfl
theorem goFn133 : goFn Tryz.prog 133 = true:=by kernel_rfl
theorem goFn134 : goFn Tryz.prog 134 = true:=by kernel_rfl
theorem goFn135 : goFn Tryz.prog 135 = true:=by kernel_rfl
theorem goFn136 : goFn Tryz.prog 136 = true:=by kernel_rfl
theorem goFn137 : goFn Tryz.prog 137 = true:=by kernel_rfl
theorem goFn138 : goFn Tryz.prog 138 = true:=by kernel_rfl
theorem goFn139 : goFn Tryz.prog 139 = true:=by kernel_rfl
theorem goFn140 : goFn Tryz.prog 140 = true:=by kernel_rfl
theorem goFn141 : goFn Tryz.prog 141 = true:=by kernel_rfl
theorem goFn142 : goFn Tryz.prog 142 = true:=by kernel_rfl
theorem goFn143 : goFn Tryz.prog 143 = true:=by kernel_rfl
theorem goFn144 : goFn Tryz.prog 144 = true:=by kernel_rfl
theorem goFn145 : goFn Tryz.prog 145 = true:=by kernel_rfl
theorem goFn146 : goFn Tryz.prog 146 = true:=by kernel_rfl
theorem goFn147 : goFn Tryz.prog 147 = true:=by kernel_rfl
theorem goFn148 : goFn Tryz.prog 148 = true:=by kernel_rfl
theorem goFn149 : goFn Tryz.prog 149 = true:=by kernel_rfl
theorem goFn150 : goFn Tryz.prog 150 = true:=by kernel_rfl
theorem goFn151 : goFn Tryz.prog 151 = true:=by kernel_rfl
theorem goFn152 : goFn Tryz.prog 152 = true:=by kernel_rfl
theorem goFn153 : goFn Tryz.prog 153 = true:=by kernel_rfl
theorem goFn162 : goFn Tryz.prog 162 = true:=by kernel_rfl
theorem goFn163 : goFn Tryz.prog 163 = true:=by kernel_rfl
theorem goFn164 : goFn Tryz.prog 164 = true:=by kernel_rfl
theorem goFn165 : goFn Tryz.prog 165 = true:=by kernel_rfl
theorem goFn166 : goFn Tryz.prog 166 = true:=by kernel_rfl
theorem goFn167 : goFn Tryz.prog 167 = true:=by kernel_rfl
theorem goFn168 : goFn Tryz.prog 168 = true:=by kernel_rfl
theorem goFn169 : goFn Tryz.prog 169 = true:=by kernel_rfl
theorem goFn182 : goFn Tryz.prog 182 = true:=by kernel_rfl
def zn := And.intro Bool.not_true Bool.not_false
def zp.{u} := @List.getElem?_toArray.{u}
def zs.{u, v} := @Option.bind_some.{u, v}
def zl.{u} := @List.toList_toArray.{u}

end Go.Rex
