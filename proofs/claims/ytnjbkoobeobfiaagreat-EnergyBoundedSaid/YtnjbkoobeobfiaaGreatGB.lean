/- Facts on types and functions of the program. -/
import Derived.Test.YtnjbkoobeobfiaaGreatS
import Derived.Test.YtnjbkoobeobfiaaGreatProg
set_option linter.unusedSimpArgs false
set_option linter.unusedVariables false
set_option linter.defProp false
namespace Go.Rex
open Go.Proofs
open Go Go.Rex Go.RowKit
set_option maxRecDepth 100000
theorem ag25 : aggB Tryz.prog 25 = some false:=by kernel_rfl
theorem ag3 : aggB Tryz.prog 3 = some false:=by kernel_rfl
theorem ag30 : aggB Tryz.prog 30 = some true:=by kernel_rfl
theorem ag4 : aggB Tryz.prog 4 = some false:=by kernel_rfl
theorem ag43 : aggB Tryz.prog 43 = some false:=by kernel_rfl
theorem ag44 : aggB Tryz.prog 44 = some false:=by kernel_rfl
theorem ag46 : aggB Tryz.prog 46 = some true:=by kernel_rfl
theorem ag95 : aggB Tryz.prog 95 = some false:=by kernel_rfl
theorem ag97 : aggB Tryz.prog 97 = some true:=by kernel_rfl
theorem ar61 : arrayOf Tryz.prog 61 = some (2,3):=by kernel_rfl
theorem by3 : bytesT Tryz.prog 3 = 8:=by kernel_rfl
theorem by44 : bytesT Tryz.prog 44 = 24:=by kernel_rfl
theorem cs3 : Tryz.prog.cellsOf 3 = 1:=by kernel_rfl
theorem cs30 : Tryz.prog.cellsOf 30 = 2:=by kernel_rfl
theorem cs44 : Tryz.prog.cellsOf 44 = 1:=by kernel_rfl
theorem cs46 : Tryz.prog.cellsOf 46 = 2:=by kernel_rfl
theorem cs95 : Tryz.prog.cellsOf 95 = 1:=by kernel_rfl
theorem cs97 : Tryz.prog.cellsOf 97 = 2:=by kernel_rfl
theorem eqg30 : Program.eqGuardType Tryz.prog Tryz.prog.depth 30 = false:=by kernel_rfl
theorem eqs30 {a0 a1 b0 b1 : Int} : prun Tryz.prog (Op.equal 30 (.agg ⟨[.int .i64 a0,.int .i64 a1]⟩) (.agg ⟨[.int .i64 b0,.int .i64 b1]⟩)) = some ([a0 == b0,a1 == b1].all id):=eq_top (eq_struct Tryz.underlying30 (by kernel_rfl) (EqF.cons (by decide) (part_atom (by kernel_rfl) rfl) (part_atom (by kernel_rfl) rfl) (eq_int (by kernel_rfl)) (EqF.cons (by decide) (part_atom (by kernel_rfl) rfl) (part_atom (by kernel_rfl) rfl) (eq_int (by kernel_rfl)) EqF.nil)))
theorem fd30_0 : fieldT Tryz.prog 30 0 = some (0,3):=by kernel_rfl
theorem fd30_1 : fieldT Tryz.prog 30 1 = some (1,3):=by kernel_rfl
theorem fd46_0 : fieldT Tryz.prog 46 0 = some (0,43):=by kernel_rfl
theorem fd46_1 : fieldT Tryz.prog 46 1 = some (1,44):=by kernel_rfl
theorem fd97_0 : fieldT Tryz.prog 97 0 = some (0,30):=by kernel_rfl
theorem ni43 : notInt Tryz.prog (some 43) = true:=by kernel_rfl
theorem ni44 : notInt Tryz.prog (some 44) = true:=by kernel_rfl
theorem ok3 : okT Tryz.prog 3 = true:=by kernel_rfl
theorem ok30 : okT Tryz.prog 30 = true:=by kernel_rfl
theorem ok44 : okT Tryz.prog 44 = true:=by kernel_rfl
theorem ok46 : okT Tryz.prog 46 = true:=by kernel_rfl
theorem ok95 : okT Tryz.prog 95 = true:=by kernel_rfl
theorem ok97 : okT Tryz.prog 97 = true:=by kernel_rfl
theorem so136 : sliceOf Tryz.prog 136 = some 95:=by kernel_rfl
theorem so43 : sliceOf Tryz.prog 43 = some 44:=by kernel_rfl
theorem so44 : sliceOf Tryz.prog 44 = some 3:=by kernel_rfl
theorem so61 : sliceOf Tryz.prog 61 = none:=by kernel_rfl
theorem st30 : structT Tryz.prog 30 = some [(0,1),(1,1)]:=by kernel_rfl
theorem st46 : structT Tryz.prog 46 = some [(0,1),(1,1)]:=by kernel_rfl
theorem st97 : structT Tryz.prog 97 = some [(0,2)]:=by kernel_rfl
theorem ub4 : Tryz.prog.underlying 4 = some .bool:=by kernel_rfl
theorem wi64_0a1 : IntKind.i64.wrap (0 + 1) = 1:=by decide
theorem wi64_1a1 : IntKind.i64.wrap (1 + 1) = 2:=by decide
theorem wi64_2a1 : IntKind.i64.wrap (2 + 1) = 3:=by decide
theorem wi64_3a1 : IntKind.i64.wrap (3 + 1) = 4:=by decide
theorem zc3 : zeroC Tryz.prog 3 = some [.int .i64 0]:=by kernel_rfl
theorem zc30 : zeroC Tryz.prog 30 = some [.int .i64 0,.int .i64 0]:=by kernel_rfl
theorem zc44 : zeroC Tryz.prog 44 = some [.slice none 0 0]:=by kernel_rfl
theorem zc46 : zeroC Tryz.prog 46 = some [.slice none 0 0,.slice none 0 0]:=by kernel_rfl
theorem zc95 : zeroC Tryz.prog 95 = some [.nilFunc]:=by kernel_rfl
theorem zc97 : zeroC Tryz.prog 97 = some [.int .i64 0,.int .i64 0]:=by kernel_rfl
theorem goFn9 : goFn Tryz.prog 9 = true:=by kernel_rfl
theorem goFn19 : goFn Tryz.prog 19 = true:=by kernel_rfl
theorem goFn20 : goFn Tryz.prog 20 = true:=by kernel_rfl
theorem goFn21 : goFn Tryz.prog 21 = true:=by kernel_rfl
theorem goFn22 : goFn Tryz.prog 22 = true:=by kernel_rfl
theorem goFn23 : goFn Tryz.prog 23 = true:=by kernel_rfl
theorem goFn24 : goFn Tryz.prog 24 = true:=by kernel_rfl
theorem goFn25 : goFn Tryz.prog 25 = true:=by kernel_rfl
theorem goFn26 : goFn Tryz.prog 26 = true:=by kernel_rfl
theorem goFn27 : goFn Tryz.prog 27 = true:=by kernel_rfl
theorem goFn28 : goFn Tryz.prog 28 = true:=by kernel_rfl
theorem goFn29 : goFn Tryz.prog 29 = true:=by kernel_rfl
theorem goFn30 : goFn Tryz.prog 30 = true:=by kernel_rfl
theorem goFn31 : goFn Tryz.prog 31 = true:=by kernel_rfl
theorem goFn32 : goFn Tryz.prog 32 = true:=by kernel_rfl
theorem goFn33 : goFn Tryz.prog 33 = true:=by kernel_rfl
theorem goFn34 : goFn Tryz.prog 34 = true:=by kernel_rfl
theorem goFn35 : goFn Tryz.prog 35 = true:=by kernel_rfl
theorem goFn36 : goFn Tryz.prog 36 = true:=by kernel_rfl
theorem goFn37 : goFn Tryz.prog 37 = true:=by kernel_rfl
theorem goFn38 : goFn Tryz.prog 38 = true:=by kernel_rfl
theorem goFn39 : goFn Tryz.prog 39 = true:=by kernel_rfl
theorem goFn40 : goFn Tryz.prog 40 = true:=by kernel_rfl
theorem goFn46 : goFn Tryz.prog 46 = true:=by kernel_rfl
theorem goFn48 : goFn Tryz.prog 48 = true:=by kernel_rfl
theorem goFn50 : goFn Tryz.prog 50 = true:=by kernel_rfl
theorem goFn54 : goFn Tryz.prog 54 = true:=by kernel_rfl
theorem goFn55 : goFn Tryz.prog 55 = true:=by kernel_rfl
theorem goFn56 : goFn Tryz.prog 56 = true:=by kernel_rfl
theorem goFn57 : goFn Tryz.prog 57 = true:=by kernel_rfl
theorem goFn58 : goFn Tryz.prog 58 = true:=by kernel_rfl
theorem goFn59 : goFn Tryz.prog 59 = true:=by kernel_rfl
theorem goFn60 : goFn Tryz.prog 60 = true:=by kernel_rfl
theorem goFn61 : goFn Tryz.prog 61 = true:=by kernel_rfl
theorem goFn62 : goFn Tryz.prog 62 = true:=by kernel_rfl
theorem goFn63 : goFn Tryz.prog 63 = true:=by kernel_rfl
theorem goFn64 : goFn Tryz.prog 64 = true:=by kernel_rfl
theorem goFn65 : goFn Tryz.prog 65 = true:=by kernel_rfl
theorem goFn66 : goFn Tryz.prog 66 = true:=by kernel_rfl
theorem goFn67 : goFn Tryz.prog 67 = true:=by kernel_rfl
theorem goFn68 : goFn Tryz.prog 68 = true:=by kernel_rfl
theorem goFn69 : goFn Tryz.prog 69 = true:=by kernel_rfl
theorem goFn70 : goFn Tryz.prog 70 = true:=by kernel_rfl
theorem goFn71 : goFn Tryz.prog 71 = true:=by kernel_rfl
theorem goFn72 : goFn Tryz.prog 72 = true:=by kernel_rfl
theorem goFn73 : goFn Tryz.prog 73 = true:=by kernel_rfl
theorem goFn81 : goFn Tryz.prog 81 = true:=by kernel_rfl
theorem goFn85 : goFn Tryz.prog 85 = true:=by kernel_rfl
theorem goFn87 : goFn Tryz.prog 87 = true:=by kernel_rfl
theorem goFn88 : goFn Tryz.prog 88 = true:=by kernel_rfl
theorem goFn89 : goFn Tryz.prog 89 = true:=by kernel_rfl
theorem goFn90 : goFn Tryz.prog 90 = true:=by kernel_rfl
theorem goFn104 : goFn Tryz.prog 104 = true:=by kernel_rfl
theorem goFn105 : goFn Tryz.prog 105 = true:=by kernel_rfl
def zn := And.intro Bool.not_true Bool.not_false
def zp.{u} := @List.getElem?_toArray.{u}
def zs.{u, v} := @Option.bind_some.{u, v}
def zl.{u} := @List.toList_toArray.{u}

end Go.Rex
