/- Facts on types and functions of the program. -/
import Derived.Test.YthjoipggampleaaGreatS
import Derived.Test.YthjoipggampleaaGreatProg
set_option linter.unusedSimpArgs false
set_option linter.unusedVariables false
set_option linter.defProp false
namespace Go.Rex
open Go.Proofs
open Go Go.Rex Go.RowKit
set_option maxRecDepth 100000
theorem ag22 : aggB Tryz.prog 22 = some false:=by kernel_rfl
theorem ag23 : aggB Tryz.prog 23 = some false:=by kernel_rfl
theorem ag25 : aggB Tryz.prog 25 = some true:=by kernel_rfl
theorem ag3 : aggB Tryz.prog 3 = some false:=by kernel_rfl
theorem ag30 : aggB Tryz.prog 30 = some true:=by kernel_rfl
theorem ag31 : aggB Tryz.prog 31 = some false:=by kernel_rfl
theorem ag4 : aggB Tryz.prog 4 = some false:=by kernel_rfl
theorem ag93 : aggB Tryz.prog 93 = some true:=by kernel_rfl
theorem ag98 : aggB Tryz.prog 98 = some false:=by kernel_rfl
theorem by3 : bytesT Tryz.prog 3 = 8:=by kernel_rfl
theorem by93 : bytesT Tryz.prog 93 = 32:=by kernel_rfl
theorem cs22 : Tryz.prog.cellsOf 22 = 1:=by kernel_rfl
theorem cs23 : Tryz.prog.cellsOf 23 = 1:=by kernel_rfl
theorem cs25 : Tryz.prog.cellsOf 25 = 3:=by kernel_rfl
theorem cs3 : Tryz.prog.cellsOf 3 = 1:=by kernel_rfl
theorem cs30 : Tryz.prog.cellsOf 30 = 2:=by kernel_rfl
theorem cs93 : Tryz.prog.cellsOf 93 = 4:=by kernel_rfl
theorem cs98 : Tryz.prog.cellsOf 98 = 1:=by kernel_rfl
theorem eqg30 : Program.eqGuardType Tryz.prog Tryz.prog.depth 30 = false:=by kernel_rfl
theorem eqg93 : Program.eqGuardType Tryz.prog Tryz.prog.depth 93 = false:=by kernel_rfl
theorem eqs30 {a0 a1 b0 b1 : Int} : prun Tryz.prog (Op.equal 30 (.agg ⟨[.int .i64 a0,.int .i64 a1]⟩) (.agg ⟨[.int .i64 b0,.int .i64 b1]⟩)) = some ([a0 == b0,a1 == b1].all id):=eq_top (eq_struct Tryz.underlying30 (by kernel_rfl) (EqF.cons (by decide) (part_atom (by kernel_rfl) rfl) (part_atom (by kernel_rfl) rfl) (eq_int (by kernel_rfl)) (EqF.cons (by decide) (part_atom (by kernel_rfl) rfl) (part_atom (by kernel_rfl) rfl) (eq_int (by kernel_rfl)) EqF.nil)))
theorem eqs93 {a0 a1 a2 a3 b0 b1 b2 b3 : Int} : prun Tryz.prog (Op.equal 93 (.agg ⟨[.int .i64 a0,.int .i64 a1,.int .i64 a2,.int .i64 a3]⟩) (.agg ⟨[.int .i64 b0,.int .i64 b1,.int .i64 b2,.int .i64 b3]⟩)) = some ([a0 == b0,a1 == b1,a2 == b2,a3 == b3].all id):=eq_top (eq_struct Tryz.underlying93 (by kernel_rfl) (EqF.cons (by decide) (part_atom (by kernel_rfl) rfl) (part_atom (by kernel_rfl) rfl) (eq_int (by kernel_rfl)) (EqF.cons (by decide) (part_atom (by kernel_rfl) rfl) (part_atom (by kernel_rfl) rfl) (eq_int (by kernel_rfl)) (EqF.cons (by decide) (part_atom (by kernel_rfl) rfl) (part_atom (by kernel_rfl) rfl) (eq_int (by kernel_rfl)) (EqF.cons (by decide) (part_atom (by kernel_rfl) rfl) (part_atom (by kernel_rfl) rfl) (eq_int (by kernel_rfl)) EqF.nil)))))
theorem fd25_0 : fieldT Tryz.prog 25 0 = some (0,22):=by kernel_rfl
theorem fd25_1 : fieldT Tryz.prog 25 1 = some (1,23):=by kernel_rfl
theorem fd25_2 : fieldT Tryz.prog 25 2 = some (2,3):=by kernel_rfl
theorem fd27_0 : fieldT Tryz.prog 27 0 = some (0,3):=by kernel_rfl
theorem fd27_1 : fieldT Tryz.prog 27 1 = some (1,3):=by kernel_rfl
theorem fd30_0 : fieldT Tryz.prog 30 0 = some (0,3):=by kernel_rfl
theorem fd30_1 : fieldT Tryz.prog 30 1 = some (1,3):=by kernel_rfl
theorem ni22 : notInt Tryz.prog (some 22) = true:=by kernel_rfl
theorem ni23 : notInt Tryz.prog (some 23) = true:=by kernel_rfl
theorem ok22 : okT Tryz.prog 22 = true:=by kernel_rfl
theorem ok23 : okT Tryz.prog 23 = true:=by kernel_rfl
theorem ok25 : okT Tryz.prog 25 = true:=by kernel_rfl
theorem ok3 : okT Tryz.prog 3 = true:=by kernel_rfl
theorem ok30 : okT Tryz.prog 30 = true:=by kernel_rfl
theorem ok93 : okT Tryz.prog 93 = true:=by kernel_rfl
theorem ok98 : okT Tryz.prog 98 = true:=by kernel_rfl
theorem so146 : sliceOf Tryz.prog 146 = some 98:=by kernel_rfl
theorem so22 : sliceOf Tryz.prog 22 = some 3:=by kernel_rfl
theorem so23 : sliceOf Tryz.prog 23 = some 93:=by kernel_rfl
theorem st25 : structT Tryz.prog 25 = some [(0,1),(1,1),(2,1)]:=by kernel_rfl
theorem st30 : structT Tryz.prog 30 = some [(0,1),(1,1)]:=by kernel_rfl
theorem un211 : Tryz.prog.underlying 211 = some (.int .u64):=by kernel_rfl
theorem un3 : Tryz.prog.underlying 3 = some (.int .i64):=by kernel_rfl
theorem wi64_0a1 : IntKind.i64.wrap (0 + 1) = 1:=by decide
theorem wi64_0a1073741824 : IntKind.i64.wrap (0 + 1073741824) = 1073741824:=by decide
theorem wi64_1073741824m1073741824 : IntKind.i64.wrap (1073741824 * 1073741824) = 1152921504606846976:=by decide
theorem wi64_1a1 : IntKind.i64.wrap (1 + 1) = 2:=by decide
theorem wi64_2a1 : IntKind.i64.wrap (2 + 1) = 3:=by decide
theorem zc25 : zeroC Tryz.prog 25 = some [.slice none 0 0,.slice none 0 0,.int .i64 0]:=by kernel_rfl
theorem zc3 : zeroC Tryz.prog 3 = some [.int .i64 0]:=by kernel_rfl
theorem zc30 : zeroC Tryz.prog 30 = some [.int .i64 0,.int .i64 0]:=by kernel_rfl
theorem zc93 : zeroC Tryz.prog 93 = some [.int .i64 0,.int .i64 0,.int .i64 0,.int .i64 0]:=by kernel_rfl
theorem zc98 : zeroC Tryz.prog 98 = some [.nilFunc]:=by kernel_rfl
theorem goFn6 : goFn Tryz.prog 6 = true:=by kernel_rfl
theorem goFn7 : goFn Tryz.prog 7 = true:=by kernel_rfl
theorem goFn8 : goFn Tryz.prog 8 = true:=by kernel_rfl
theorem goFn9 : goFn Tryz.prog 9 = true:=by kernel_rfl
theorem goFn10 : goFn Tryz.prog 10 = true:=by kernel_rfl
theorem goFn11 : goFn Tryz.prog 11 = true:=by kernel_rfl
theorem goFn12 : goFn Tryz.prog 12 = true:=by kernel_rfl
theorem goFn13 : goFn Tryz.prog 13 = true:=by kernel_rfl
theorem goFn14 : goFn Tryz.prog 14 = true:=by kernel_rfl
theorem goFn15 : goFn Tryz.prog 15 = true:=by kernel_rfl
theorem goFn16 : goFn Tryz.prog 16 = true:=by kernel_rfl
theorem goFn17 : goFn Tryz.prog 17 = true:=by kernel_rfl
theorem goFn18 : goFn Tryz.prog 18 = true:=by kernel_rfl
theorem goFn19 : goFn Tryz.prog 19 = true:=by kernel_rfl
theorem goFn36 : goFn Tryz.prog 36 = true:=by kernel_rfl
theorem goFn37 : goFn Tryz.prog 37 = true:=by kernel_rfl
theorem goFn38 : goFn Tryz.prog 38 = true:=by kernel_rfl
theorem goFn39 : goFn Tryz.prog 39 = true:=by kernel_rfl
theorem goFn40 : goFn Tryz.prog 40 = true:=by kernel_rfl
theorem goFn41 : goFn Tryz.prog 41 = true:=by kernel_rfl
theorem goFn42 : goFn Tryz.prog 42 = true:=by kernel_rfl
theorem goFn43 : goFn Tryz.prog 43 = true:=by kernel_rfl
theorem goFn44 : goFn Tryz.prog 44 = true:=by kernel_rfl
theorem goFn45 : goFn Tryz.prog 45 = true:=by kernel_rfl
theorem goFn46 : goFn Tryz.prog 46 = true:=by kernel_rfl
theorem goFn47 : goFn Tryz.prog 47 = true:=by kernel_rfl
theorem goFn48 : goFn Tryz.prog 48 = true:=by kernel_rfl
theorem goFn49 : goFn Tryz.prog 49 = true:=by kernel_rfl
theorem goFn50 : goFn Tryz.prog 50 = true:=by kernel_rfl
theorem goFn52 : goFn Tryz.prog 52 = true:=by kernel_rfl
theorem goFn72 : goFn Tryz.prog 72 = true:=by kernel_rfl
theorem goFn73 : goFn Tryz.prog 73 = true:=by kernel_rfl
theorem goFn74 : goFn Tryz.prog 74 = true:=by kernel_rfl
theorem goFn75 : goFn Tryz.prog 75 = true:=by kernel_rfl
theorem goFn76 : goFn Tryz.prog 76 = true:=by kernel_rfl
theorem goFn77 : goFn Tryz.prog 77 = true:=by kernel_rfl
theorem goFn79 : goFn Tryz.prog 79 = true:=by kernel_rfl
theorem goFn103 : goFn Tryz.prog 103 = true:=by kernel_rfl
theorem goFn104 : goFn Tryz.prog 104 = true:=by kernel_rfl
def zn := And.intro Bool.not_true Bool.not_false
def zp.{u} := @List.getElem?_toArray.{u}
def zs.{u, v} := @Option.bind_some.{u, v}
def zl.{u} := @List.toList_toArray.{u}

end Go.Rex
