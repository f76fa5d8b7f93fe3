/- Facts on types and functions of the program. -/
import Derived.Test.YtnjbkoobeobfiaaGreatS
import Derived.Test.YtnjbkoobeobfiaaGreatProg
set_option linter.unusedSimpArgs false
set_option linter.unusedVariables false
set_option linter.defProp false
namespace Go.Rex
open Go.Proofs
open Go Go.Rex Go.RowKit
set_option maxRecDepth 100000
theorem ag22 : aggB Tryz.prog 22 = some false:=by kernel_rfl
theorem ag25 : aggB Tryz.prog 25 = some false:=by kernel_rfl
theorem ag3 : aggB Tryz.prog 3 = some false:=by kernel_rfl
theorem ag30 : aggB Tryz.prog 30 = some true:=by kernel_rfl
theorem ag34 : aggB Tryz.prog 34 = some true:=by kernel_rfl
theorem ag4 : aggB Tryz.prog 4 = some false:=by kernel_rfl
theorem ag44 : aggB Tryz.prog 44 = some false:=by kernel_rfl
theorem ag91 : aggB Tryz.prog 91 = some true:=by kernel_rfl
theorem ag95 : aggB Tryz.prog 95 = some false:=by kernel_rfl
theorem by3 : bytesT Tryz.prog 3 = 8:=by kernel_rfl
theorem by91 : bytesT Tryz.prog 91 = 56:=by kernel_rfl
theorem cs3 : Tryz.prog.cellsOf 3 = 1:=by kernel_rfl
theorem cs30 : Tryz.prog.cellsOf 30 = 2:=by kernel_rfl
theorem cs34 : Tryz.prog.cellsOf 34 = 3:=by kernel_rfl
theorem cs44 : Tryz.prog.cellsOf 44 = 1:=by kernel_rfl
theorem cs91 : Tryz.prog.cellsOf 91 = 5:=by kernel_rfl
theorem cs95 : Tryz.prog.cellsOf 95 = 1:=by kernel_rfl
theorem eqg30 : Program.eqGuardType Tryz.prog Tryz.prog.depth 30 = false:=by kernel_rfl
theorem eqg34 : Program.eqGuardType Tryz.prog Tryz.prog.depth 34 = false:=by kernel_rfl
theorem eqs30 {a0 a1 b0 b1 : Int} : prun Tryz.prog (Op.equal 30 (.agg ⟨[.int .i64 a0,.int .i64 a1]⟩) (.agg ⟨[.int .i64 b0,.int .i64 b1]⟩)) = some ([a0 == b0,a1 == b1].all id):=eq_top (eq_struct Tryz.underlying30 (by kernel_rfl) (EqF.cons (by decide) (part_atom (by kernel_rfl) rfl) (part_atom (by kernel_rfl) rfl) (eq_int (by kernel_rfl)) (EqF.cons (by decide) (part_atom (by kernel_rfl) rfl) (part_atom (by kernel_rfl) rfl) (eq_int (by kernel_rfl)) EqF.nil)))
theorem eqs34 {a0 a1 a2 b0 b1 b2 : Int} : prun Tryz.prog (Op.equal 34 (.agg ⟨[.int .i64 a0,.int .i64 a1,.int .i64 a2]⟩) (.agg ⟨[.int .i64 b0,.int .i64 b1,.int .i64 b2]⟩)) = some ([a0 == b0,a1 == b1,a2 == b2].all id):=eq_top (eq_struct Tryz.underlying34 (by kernel_rfl) (EqF.cons (by decide) (part_atom (by kernel_rfl) rfl) (part_atom (by kernel_rfl) rfl) (eq_int (by kernel_rfl)) (EqF.cons (by decide) (part_atom (by kernel_rfl) rfl) (part_atom (by kernel_rfl) rfl) (eq_int (by kernel_rfl)) (EqF.cons (by decide) (part_atom (by kernel_rfl) rfl) (part_atom (by kernel_rfl) rfl) (eq_int (by kernel_rfl)) EqF.nil))))
theorem fd30_0 : fieldT Tryz.prog 30 0 = some (0,3):=by kernel_rfl
theorem fd30_1 : fieldT Tryz.prog 30 1 = some (1,3):=by kernel_rfl
theorem fd34_1 : fieldT Tryz.prog 34 1 = some (1,3):=by kernel_rfl
theorem fd34_2 : fieldT Tryz.prog 34 2 = some (2,3):=by kernel_rfl
theorem fd91_0 : fieldT Tryz.prog 91 0 = some (0,44):=by kernel_rfl
theorem fd91_1 : fieldT Tryz.prog 91 1 = some (1,30):=by kernel_rfl
theorem fd91_2 : fieldT Tryz.prog 91 2 = some (3,30):=by kernel_rfl
theorem fd97_0 : fieldT Tryz.prog 97 0 = some (0,30):=by kernel_rfl
theorem ni22 : notInt Tryz.prog (some 22) = true:=by kernel_rfl
theorem ni44 : notInt Tryz.prog (some 44) = true:=by kernel_rfl
theorem ok3 : okT Tryz.prog 3 = true:=by kernel_rfl
theorem ok30 : okT Tryz.prog 30 = true:=by kernel_rfl
theorem ok34 : okT Tryz.prog 34 = true:=by kernel_rfl
theorem ok44 : okT Tryz.prog 44 = true:=by kernel_rfl
theorem ok91 : okT Tryz.prog 91 = true:=by kernel_rfl
theorem ok95 : okT Tryz.prog 95 = true:=by kernel_rfl
theorem so136 : sliceOf Tryz.prog 136 = some 95:=by kernel_rfl
theorem so22 : sliceOf Tryz.prog 22 = some 91:=by kernel_rfl
theorem so44 : sliceOf Tryz.prog 44 = some 3:=by kernel_rfl
theorem st30 : structT Tryz.prog 30 = some [(0,1),(1,1)]:=by kernel_rfl
theorem st34 : structT Tryz.prog 34 = some [(0,1),(1,1),(2,1)]:=by kernel_rfl
theorem st97 : structT Tryz.prog 97 = some [(0,2)]:=by kernel_rfl
theorem wi64_0a1 : IntKind.i64.wrap (0 + 1) = 1:=by decide
theorem wi64_1a1 : IntKind.i64.wrap (1 + 1) = 2:=by decide
theorem wi64_2a1 : IntKind.i64.wrap (2 + 1) = 3:=by decide
theorem zc3 : zeroC Tryz.prog 3 = some [.int .i64 0]:=by kernel_rfl
theorem zc30 : zeroC Tryz.prog 30 = some [.int .i64 0,.int .i64 0]:=by kernel_rfl
theorem zc34 : zeroC Tryz.prog 34 = some [.int .i64 0,.int .i64 0,.int .i64 0]:=by kernel_rfl
theorem zc91 : zeroC Tryz.prog 91 = some [.slice none 0 0,.int .i64 0,.int .i64 0,.int .i64 0,.int .i64 0]:=by kernel_rfl
theorem zc95 : zeroC Tryz.prog 95 = some [.nilFunc]:=by kernel_rfl
theorem zc97 : zeroC Tryz.prog 97 = some [.int .i64 0,.int .i64 0]:=by kernel_rfl
theorem goFn9 : goFn Tryz.prog 9 = true:=by kernel_rfl
theorem goFn10 : goFn Tryz.prog 10 = true:=by kernel_rfl
theorem goFn11 : goFn Tryz.prog 11 = true:=by kernel_rfl
theorem goFn12 : goFn Tryz.prog 12 = true:=by kernel_rfl
theorem goFn13 : goFn Tryz.prog 13 = true:=by kernel_rfl
theorem goFn14 : goFn Tryz.prog 14 = true:=by kernel_rfl
theorem goFn15 : goFn Tryz.prog 15 = true:=by kernel_rfl
theorem goFn16 : goFn Tryz.prog 16 = true:=by kernel_rfl
theorem goFn17 : goFn Tryz.prog 17 = true:=by kernel_rfl
theorem goFn18 : goFn Tryz.prog 18 = true:=by kernel_rfl
theorem goFn23 : goFn Tryz.prog 23 = true:=by kernel_rfl
theorem goFn31 : goFn Tryz.prog 31 = true:=by kernel_rfl
theorem goFn46 : goFn Tryz.prog 46 = true:=by kernel_rfl
theorem goFn47 : goFn Tryz.prog 47 = true:=by kernel_rfl
theorem goFn48 : goFn Tryz.prog 48 = true:=by kernel_rfl
theorem goFn49 : goFn Tryz.prog 49 = true:=by kernel_rfl
theorem goFn50 : goFn Tryz.prog 50 = true:=by kernel_rfl
theorem goFn51 : goFn Tryz.prog 51 = true:=by kernel_rfl
theorem goFn52 : goFn Tryz.prog 52 = true:=by kernel_rfl
theorem goFn53 : goFn Tryz.prog 53 = true:=by kernel_rfl
theorem goFn57 : goFn Tryz.prog 57 = true:=by kernel_rfl
theorem goFn84 : goFn Tryz.prog 84 = true:=by kernel_rfl
theorem goFn85 : goFn Tryz.prog 85 = true:=by kernel_rfl
theorem goFn86 : goFn Tryz.prog 86 = true:=by kernel_rfl
theorem goFn87 : goFn Tryz.prog 87 = true:=by kernel_rfl
theorem goFn104 : goFn Tryz.prog 104 = true:=by kernel_rfl
def zn := And.intro Bool.not_true Bool.not_false
def zp.{u} := @List.getElem?_toArray.{u}
def zs.{u, v} := @Option.bind_some.{u, v}
def zl.{u} := @List.toList_toArray.{u}

end Go.Rex
