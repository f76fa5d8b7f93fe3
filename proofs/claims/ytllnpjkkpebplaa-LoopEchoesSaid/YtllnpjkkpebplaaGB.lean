/- Facts on types and functions of the program. -/
import Derived.Test.YtllnpjkkpebplaaS
import Derived.Test.YtllnpjkkpebplaaProg
set_option linter.unusedSimpArgs false
set_option linter.unusedVariables false
set_option linter.defProp false
namespace Go.Rex
open Go.Proofs
open Go Go.Rex Go.RowKit
set_option maxRecDepth 100000
theorem ag101 : aggB Try.prog 101 = some false:=by kernel_rfl
theorem ag105 : aggB Try.prog 105 = some false:=by kernel_rfl
theorem ag107 : aggB Try.prog 107 = some true:=by kernel_rfl
theorem ag110 : aggB Try.prog 110 = some true:=by kernel_rfl
theorem ag126 : aggB Try.prog 126 = some true:=by kernel_rfl
theorem ag135 : aggB Try.prog 135 = some true:=by kernel_rfl
theorem ag140 : aggB Try.prog 140 = some false:=by kernel_rfl
theorem ag22 : aggB Try.prog 22 = some false:=by kernel_rfl
theorem ag24 : aggB Try.prog 24 = some true:=by kernel_rfl
theorem ag27 : aggB Try.prog 27 = some false:=by kernel_rfl
theorem ag3 : aggB Try.prog 3 = some false:=by kernel_rfl
theorem ag4 : aggB Try.prog 4 = some false:=by kernel_rfl
theorem ag41 : aggB Try.prog 41 = some true:=by kernel_rfl
theorem ag48 : aggB Try.prog 48 = some true:=by kernel_rfl
theorem ag81 : aggB Try.prog 81 = some false:=by kernel_rfl
theorem ag83 : aggB Try.prog 83 = some true:=by kernel_rfl
theorem ag97 : aggB Try.prog 97 = some true:=by kernel_rfl
theorem ar107 : arrayOf Try.prog 107 = some (2,3):=by kernel_rfl
theorem by107 : bytesT Try.prog 107 = 16:=by kernel_rfl
theorem by135 : bytesT Try.prog 135 = 16:=by kernel_rfl
theorem by22 : bytesT Try.prog 22 = 24:=by kernel_rfl
theorem by3 : bytesT Try.prog 3 = 8:=by kernel_rfl
theorem cs101 : Try.prog.cellsOf 101 = 1:=by kernel_rfl
theorem cs107 : Try.prog.cellsOf 107 = 2:=by kernel_rfl
theorem cs110 : Try.prog.cellsOf 110 = 3:=by kernel_rfl
theorem cs126 : Try.prog.cellsOf 126 = 1:=by kernel_rfl
theorem cs135 : Try.prog.cellsOf 135 = 2:=by kernel_rfl
theorem cs22 : Try.prog.cellsOf 22 = 1:=by kernel_rfl
theorem cs24 : Try.prog.cellsOf 24 = 2:=by kernel_rfl
theorem cs3 : Try.prog.cellsOf 3 = 1:=by kernel_rfl
theorem cs41 : Try.prog.cellsOf 41 = 3:=by kernel_rfl
theorem cs48 : Try.prog.cellsOf 48 = 2:=by kernel_rfl
theorem cs83 : Try.prog.cellsOf 83 = 1:=by kernel_rfl
theorem cs97 : Try.prog.cellsOf 97 = 2:=by kernel_rfl
theorem eqg41 : Program.eqGuardType Try.prog Try.prog.depth 41 = false:=by kernel_rfl
theorem eqs41 {a0 a1 a2 b0 b1 b2 : Int} : prun Try.prog (Op.equal 41 (.agg ⟨[.int .i64 a0,.int .i64 a1,.int .i64 a2]⟩) (.agg ⟨[.int .i64 b0,.int .i64 b1,.int .i64 b2]⟩)) = some ([a0 == b0,a1 == b1,a2 == b2].all id):=eq_top (eq_struct Try.underlying41 (by kernel_rfl) (EqF.cons (by decide) (part_atom (by kernel_rfl) rfl) (part_atom (by kernel_rfl) rfl) (eq_int (by kernel_rfl)) (EqF.cons (by decide) (part_atom (by kernel_rfl) rfl) (part_atom (by kernel_rfl) rfl) (eq_int (by kernel_rfl)) (EqF.cons (by decide) (part_atom (by kernel_rfl) rfl) (part_atom (by kernel_rfl) rfl) (eq_int (by kernel_rfl)) EqF.nil))))
theorem fd110_0 : fieldT Try.prog 110 0 = some (0,97):=by kernel_rfl
theorem fd110_1 : fieldT Try.prog 110 1 = some (2,105):=by kernel_rfl
theorem fd126_0 : fieldT Try.prog 126 0 = some (0,83):=by kernel_rfl
theorem fd135_0 : fieldT Try.prog 135 0 = some (0,3):=by kernel_rfl
theorem fd135_1 : fieldT Try.prog 135 1 = some (1,3):=by kernel_rfl
theorem fd24_0 : fieldT Try.prog 24 0 = some (0,22):=by kernel_rfl
theorem fd24_1 : fieldT Try.prog 24 1 = some (1,3):=by kernel_rfl
theorem fd41_0 : fieldT Try.prog 41 0 = some (0,3):=by kernel_rfl
theorem fd41_1 : fieldT Try.prog 41 1 = some (1,3):=by kernel_rfl
theorem fd41_2 : fieldT Try.prog 41 2 = some (2,3):=by kernel_rfl
theorem fd48_0 : fieldT Try.prog 48 0 = some (0,3):=by kernel_rfl
theorem fd48_1 : fieldT Try.prog 48 1 = some (1,3):=by kernel_rfl
theorem fd83_0 : fieldT Try.prog 83 0 = some (0,81):=by kernel_rfl
theorem fd97_0 : fieldT Try.prog 97 0 = some (0,24):=by kernel_rfl
theorem it3 : isIntT Try.prog (some 3) = true:=by kernel_rfl
theorem ni146 : notInt Try.prog (some 146) = true:=by kernel_rfl
theorem ni22 : notInt Try.prog (some 22) = true:=by kernel_rfl
theorem ni81 : notInt Try.prog (some 81) = true:=by kernel_rfl
theorem ok101 : okT Try.prog 101 = true:=by kernel_rfl
theorem ok107 : okT Try.prog 107 = true:=by kernel_rfl
theorem ok110 : okT Try.prog 110 = true:=by kernel_rfl
theorem ok126 : okT Try.prog 126 = true:=by kernel_rfl
theorem ok135 : okT Try.prog 135 = true:=by kernel_rfl
theorem ok22 : okT Try.prog 22 = true:=by kernel_rfl
theorem ok24 : okT Try.prog 24 = true:=by kernel_rfl
theorem ok3 : okT Try.prog 3 = true:=by kernel_rfl
theorem ok41 : okT Try.prog 41 = true:=by kernel_rfl
theorem ok48 : okT Try.prog 48 = true:=by kernel_rfl
theorem ok83 : okT Try.prog 83 = true:=by kernel_rfl
theorem ok97 : okT Try.prog 97 = true:=by kernel_rfl
theorem so105 : sliceOf Try.prog 105 = some 135:=by kernel_rfl
theorem so107 : sliceOf Try.prog 107 = none:=by kernel_rfl
theorem so133 : sliceOf Try.prog 133 = some 101:=by kernel_rfl
theorem so146 : sliceOf Try.prog 146 = some 22:=by kernel_rfl
theorem so22 : sliceOf Try.prog 22 = some 3:=by kernel_rfl
theorem so44 : sliceOf Try.prog 44 = some 107:=by kernel_rfl
theorem so81 : sliceOf Try.prog 81 = some 22:=by kernel_rfl
theorem st107 : structT Try.prog 107 = none:=by kernel_rfl
theorem st110 : structT Try.prog 110 = some [(0,2),(2,1)]:=by kernel_rfl
theorem st126 : structT Try.prog 126 = some [(0,1)]:=by kernel_rfl
theorem st135 : structT Try.prog 135 = some [(0,1),(1,1)]:=by kernel_rfl
theorem st24 : structT Try.prog 24 = some [(0,1),(1,1)]:=by kernel_rfl
theorem st41 : structT Try.prog 41 = some [(0,1),(1,1),(2,1)]:=by kernel_rfl
theorem st83 : structT Try.prog 83 = some [(0,1)]:=by kernel_rfl
theorem st97 : structT Try.prog 97 = some [(0,2)]:=by kernel_rfl
theorem ub4 : Try.prog.underlying 4 = some .bool:=by kernel_rfl
theorem un155 : Try.prog.underlying 155 = some (.int .u64):=by kernel_rfl
theorem un160 : Try.prog.underlying 160 = some (.int .u64):=by kernel_rfl
theorem un3 : Try.prog.underlying 3 = some (.int .i64):=by kernel_rfl
theorem un5 : Try.prog.underlying 5 = some (.int .u8):=by kernel_rfl
theorem us9 : Try.prog.underlying 9 = some .string:=by kernel_rfl
theorem wi64_0a1 : IntKind.i64.wrap (0 + 1) = 1:=by decide
theorem wi64_0a1073741824 : IntKind.i64.wrap (0 + 1073741824) = 1073741824:=by decide
theorem wi64_0a16 : IntKind.i64.wrap (0 + 16) = 16:=by decide
theorem wi64_0a8 : IntKind.i64.wrap (0 + 8) = 8:=by decide
theorem wi64_0s0 : IntKind.i64.wrap (0 - 0) = 0:=by decide
theorem wi64_1073741824m1073741824 : IntKind.i64.wrap (1073741824 * 1073741824) = 1152921504606846976:=by decide
theorem wi64_16a8 : IntKind.i64.wrap (16 + 8) = 24:=by decide
theorem wi64_1a1 : IntKind.i64.wrap (1 + 1) = 2:=by decide
theorem wi64_256a256 : IntKind.i64.wrap (256 + 256) = 512:=by decide
theorem wi64_256a512 : IntKind.i64.wrap (256 + 512) = 768:=by decide
theorem wi64_256s256 : IntKind.i64.wrap (256 - 256) = 0:=by decide
theorem wi64_2a1 : IntKind.i64.wrap (2 + 1) = 3:=by decide
theorem wi64_2m256 : IntKind.i64.wrap (2 * 256) = 512:=by decide
theorem wi64_32a16 : IntKind.i64.wrap (32 + 16) = 48:=by decide
theorem wi64_32a8 : IntKind.i64.wrap (32 + 8) = 40:=by decide
theorem wi64_3a1 : IntKind.i64.wrap (3 + 1) = 4:=by decide
theorem wi64_48a8 : IntKind.i64.wrap (48 + 8) = 56:=by decide
theorem wi64_m1 : IntKind.i64.wrap (-1) = (-1):=by decide
theorem zc101 : zeroC Try.prog 101 = some [.nilFunc]:=by kernel_rfl
theorem zc107 : zeroC Try.prog 107 = some [.int .i64 0,.int .i64 0]:=by kernel_rfl
theorem zc110 : zeroC Try.prog 110 = some [.slice none 0 0,.int .i64 0,.slice none 0 0]:=by kernel_rfl
theorem zc126 : zeroC Try.prog 126 = some [.slice none 0 0]:=by kernel_rfl
theorem zc135 : zeroC Try.prog 135 = some [.int .i64 0,.int .i64 0]:=by kernel_rfl
theorem zc22 : zeroC Try.prog 22 = some [.slice none 0 0]:=by kernel_rfl
theorem zc24 : zeroC Try.prog 24 = some [.slice none 0 0,.int .i64 0]:=by kernel_rfl
theorem zc3 : zeroC Try.prog 3 = some [.int .i64 0]:=by kernel_rfl
theorem zc41 : zeroC Try.prog 41 = some [.int .i64 0,.int .i64 0,.int .i64 0]:=by kernel_rfl
theorem zc83 : zeroC Try.prog 83 = some [.slice none 0 0]:=by kernel_rfl
theorem zc97 : zeroC Try.prog 97 = some [.slice none 0 0,.int .i64 0]:=by kernel_rfl
theorem goFn14 : goFn Try.prog 14 = true:=by kernel_rfl
theorem goFn15 : goFn Try.prog 15 = true:=by kernel_rfl
theorem goFn16 : goFn Try.prog 16 = true:=by kernel_rfl
theorem goFn17 : goFn Try.prog 17 = true:=by kernel_rfl
theorem goFn18 : goFn Try.prog 18 = true:=by kernel_rfl
theorem goFn19 : goFn Try.prog 19 = true:=by kernel_rfl
theorem goFn20 : goFn Try.prog 20 = true:=by kernel_rfl
theorem goFn21 : goFn Try.prog 21 = true:=by kernel_rfl
theorem goFn22 : goFn Try.prog 22 = true:=by kernel_rfl
theorem goFn23 : goFn Try.prog 23 = true:=by kernel_rfl
theorem goFn24 : goFn Try.prog 24 = true:=by kernel_rfl
theorem goFn25 : goFn Try.prog 25 = true:=by kernel_rfl
theorem goFn26 : goFn Try.prog 26 = true:=by kernel_rfl
theorem goFn27 : goFn Try.prog 27 = true:=by kernel_rfl
theorem goFn28 : goFn Try.prog 28 = true:=by kernel_rfl
theorem goFn29 : goFn Try.prog 29 = true:=by kernel_rfl
theorem goFn30 : goFn Try.prog 30 = true:=by kernel_rfl
theorem goFn31 : goFn Try.prog 31 = true:=by kernel_rfl
theorem goFn32 : goFn Try.prog 32 = true:=by kernel_rfl
theorem goFn33 : goFn Try.prog 33 = true:=by kernel_rfl
theorem goFn34 : goFn Try.prog 34 = true:=by kernel_rfl
theorem goFn35 : goFn Try.prog 35 = true:=by kernel_rfl
theorem goFn36 : goFn Try.prog 36 = true:=by kernel_rfl
theorem goFn45 : goFn Try.prog 45 = true:=by kernel_rfl
theorem goFn46 : goFn Try.prog 46 = true:=by kernel_rfl
theorem goFn47 : goFn Try.prog 47 = true:=by kernel_rfl
theorem goFn48 : goFn Try.prog 48 = true:=by kernel_rfl
theorem goFn49 : goFn Try.prog 49 = true:=by kernel_rfl
theorem goFn50 : goFn Try.prog 50 = true:=by kernel_rfl
theorem goFn51 : goFn Try.prog 51 = true:=by kernel_rfl
theorem goFn52 : goFn Try.prog 52 = true:=by kernel_rfl
theorem goFn53 : goFn Try.prog 53 = true:=by kernel_rfl
theorem goFn54 : goFn Try.prog 54 = true:=by kernel_rfl
theorem goFn55 : goFn Try.prog 55 = true:=by kernel_rfl
theorem goFn56 : goFn Try.prog 56 = true:=by kernel_rfl
theorem goFn57 : goFn Try.prog 57 = true:=by kernel_rfl
theorem goFn58 : goFn Try.prog 58 = true:=by kernel_rfl
theorem goFn59 : goFn Try.prog 59 = true:=by kernel_rfl
theorem goFn60 : goFn Try.prog 60 = true:=by kernel_rfl
theorem goFn61 : goFn Try.prog 61 = true:=by kernel_rfl
theorem goFn63 : goFn Try.prog 63 = true:=by kernel_rfl
theorem goFn65 : goFn Try.prog 65 = true:=by kernel_rfl
theorem goFn66 : goFn Try.prog 66 = true:=by kernel_rfl
theorem goFn67 : goFn Try.prog 67 = true:=by kernel_rfl
theorem goFn68 : goFn Try.prog 68 = true:=by kernel_rfl
theorem goFn69 : goFn Try.prog 69 = true:=by kernel_rfl
theorem goFn70 : goFn Try.prog 70 = true:=by kernel_rfl
theorem goFn71 : goFn Try.prog 71 = true:=by kernel_rfl
theorem goFn72 : goFn Try.prog 72 = true:=by kernel_rfl
theorem goFn73 : goFn Try.prog 73 = true:=by kernel_rfl
theorem goFn74 : goFn Try.prog 74 = true:=by kernel_rfl
theorem goFn75 : goFn Try.prog 75 = true:=by kernel_rfl
theorem goFn76 : goFn Try.prog 76 = true:=by kernel_rfl
theorem goFn77 : goFn Try.prog 77 = true:=by kernel_rfl
theorem goFn78 : goFn Try.prog 78 = true:=by kernel_rfl
theorem goFn79 : goFn Try.prog 79 = true:=by kernel_rfl
theorem goFn80 : goFn Try.prog 80 = true:=by kernel_rfl
theorem goFn81 : goFn Try.prog 81 = true:=by kernel_rfl
theorem goFn82 : goFn Try.prog 82 = true:=by kernel_rfl
theorem goFn88 : goFn Try.prog 88 = true:=by kernel_rfl
theorem goFn89 : goFn Try.prog 89 = true:=by kernel_rfl
theorem goFn90 : goFn Try.prog 90 = true:=by kernel_rfl
theorem goFn91 : goFn Try.prog 91 = true:=by kernel_rfl
theorem goFn92 : goFn Try.prog 92 = true:=by kernel_rfl
theorem goFn93 : goFn Try.prog 93 = true:=by kernel_rfl
theorem goFn94 : goFn Try.prog 94 = true:=by kernel_rfl
theorem goFn95 : goFn Try.prog 95 = true:=by kernel_rfl
theorem goFn96 : goFn Try.prog 96 = true:=by kernel_rfl
theorem goFn99 : goFn Try.prog 99 = true:=by kernel_rfl
theorem goFn100 : goFn Try.prog 100 = true:=by kernel_rfl
theorem goFn101 : goFn Try.prog 101 = true:=by kernel_rfl
theorem goFn102 : goFn Try.prog 102 = true:=by kernel_rfl
theorem goFn103 : goFn Try.prog 103 = true:=by kernel_rfl
theorem goFn104 : goFn Try.prog 104 = true:=by kernel_rfl
theorem goFn105 : goFn Try.prog 105 = true:=by kernel_rfl
theorem goFn106 : goFn Try.prog 106 = true:=by kernel_rfl
theorem goFn107 : goFn Try.prog 107 = true:=by kernel_rfl
theorem goFn108 : goFn Try.prog 108 = true:=by kernel_rfl
theorem goFn109 : goFn Try.prog 109 = true:=by kernel_rfl
theorem goFn110 : goFn Try.prog 110 = true:=by kernel_rfl
theorem goFn111 : goFn Try.prog 111 = true:=by kernel_rfl
theorem goFn112 : goFn Try.prog 112 = true:=by kernel_rfl
theorem goFn113 : goFn Try.prog 113 = true:=by kernel_rfl
theorem goFn116 : goFn Try.prog 116 = true:=by kernel_rfl
theorem goFn123 : goFn Try.prog 123 = true:=by kernel_rfl
theorem goFn124 : goFn Try.prog 124 = true:=by kernel_rfl
theorem goFn125 : goFn Try.prog 125 = true:=by kernel_rfl
theorem goFn126 : goFn Try.prog 126 = true:=by kernel_rfl
theorem goFn127 : goFn Try.prog 127 = true:=by kernel_rfl
theorem goFn128 : goFn Try.prog 128 = true:=by kernel_rfl
theorem goFn129 : goFn Try.prog 129 = true:=by kernel_rfl
theorem goFn130 : goFn Try.prog 130 = true:=by kernel_rfl
theorem goFn131 : goFn Try.prog 131 = true:=by kernel_rfl
theorem goFn133 : goFn Try.prog 133 = true:=by kernel_rfl
theorem goFn134 : goFn Try.prog 134 = true:=by kernel_rfl
theorem goFn135 : goFn Try.prog 135 = true:=by kernel_rfl
theorem goFn136 : goFn Try.prog 136 = true:=by kernel_rfl
theorem goFn137 : goFn Try.prog 137 = true:=by kernel_rfl
theorem goFn138 : goFn Try.prog 138 = true:=by kernel_rfl
theorem goFn139 : goFn Try.prog 139 = true:=by kernel_rfl
theorem goFn142 : goFn Try.prog 142 = true:=by kernel_rfl
theorem goFn143 : goFn Try.prog 143 = true:=by kernel_rfl
theorem goFn144 : goFn Try.prog 144 = true:=by kernel_rfl
theorem goFn145 : goFn Try.prog 145 = true:=by kernel_rfl
theorem goFn147 : goFn Try.prog 147 = true:=by kernel_rfl
def zn := And.intro Bool.not_true Bool.not_false
def zp.{u} := @List.getElem?_toArray.{u}
def zs.{u, v} := @Option.bind_some.{u, v}
def zl.{u} := @List.toList_toArray.{u}

end Go.Rex
