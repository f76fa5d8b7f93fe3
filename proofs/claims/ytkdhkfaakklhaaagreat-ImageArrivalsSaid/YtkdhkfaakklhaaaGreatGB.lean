/- Facts on types and functions of the program. -/
import Derived.Test.YtkdhkfaakklhaaaGreatS
import Derived.Test.YtkdhkfaakklhaaaGreatRexG8
import Derived.Test.YtkdhkfaakklhaaaGreatProg
set_option linter.unusedSimpArgs false
set_option linter.unusedVariables false
set_option linter.defProp false
namespace Go.Rex
open Go.Proofs
open Go Go.Rex Go.RowKit
set_option maxRecDepth 100000
theorem ag22 : aggB Tryz.prog 22 = some false:=by kernel_rfl
theorem ag26 : aggB Tryz.prog 26 = some false:=by kernel_rfl
theorem ag27 : aggB Tryz.prog 27 = some false:=by kernel_rfl
theorem ag29 : aggB Tryz.prog 29 = some true:=by kernel_rfl
theorem ag3 : aggB Tryz.prog 3 = some false:=by kernel_rfl
theorem ag31 : aggB Tryz.prog 31 = some true:=by kernel_rfl
theorem ag32 : aggB Tryz.prog 32 = some false:=by kernel_rfl
theorem ag36 : aggB Tryz.prog 36 = some true:=by kernel_rfl
theorem ag4 : aggB Tryz.prog 4 = some false:=by kernel_rfl
theorem ag78 : aggB Tryz.prog 78 = some false:=by kernel_rfl
theorem ar36 : arrayOf Tryz.prog 36 = some (2,3):=by kernel_rfl
theorem by29 : bytesT Tryz.prog 29 = 56:=by kernel_rfl
theorem by3 : bytesT Tryz.prog 3 = 8:=by kernel_rfl
theorem by72 : bytesT Tryz.prog 72 = 32:=by kernel_rfl
theorem cs29 : Tryz.prog.cellsOf 29 = 3:=by kernel_rfl
theorem cs3 : Tryz.prog.cellsOf 3 = 1:=by kernel_rfl
theorem cs31 : Tryz.prog.cellsOf 31 = 2:=by kernel_rfl
theorem cs36 : Tryz.prog.cellsOf 36 = 2:=by kernel_rfl
theorem cs72 : Tryz.prog.cellsOf 72 = 4:=by kernel_rfl
theorem cs78 : Tryz.prog.cellsOf 78 = 1:=by kernel_rfl
theorem eqg31 : Program.eqGuardType Tryz.prog Tryz.prog.depth 31 = false:=by kernel_rfl
theorem eqg36 : Program.eqGuardType Tryz.prog Tryz.prog.depth 36 = false:=by kernel_rfl
theorem eqs31 {a0 a1 b0 b1 : Int} : prun Tryz.prog (Op.equal 31 (.agg ⟨[.int .i64 a0,.int .i64 a1]⟩) (.agg ⟨[.int .i64 b0,.int .i64 b1]⟩)) = some ([a0 == b0,a1 == b1].all id):=eq_top (eq_struct Tryz.underlying31 (by kernel_rfl) (EqF.cons (by decide) (part_atom (by kernel_rfl) rfl) (part_atom (by kernel_rfl) rfl) (eq_int (by kernel_rfl)) (EqF.cons (by decide) (part_atom (by kernel_rfl) rfl) (part_atom (by kernel_rfl) rfl) (eq_int (by kernel_rfl)) EqF.nil)))
theorem eqs36 {a0 a1 b0 b1 : Int} : prun Tryz.prog (Op.equal 36 (.agg ⟨[.int .i64 a0,.int .i64 a1]⟩) (.agg ⟨[.int .i64 b0,.int .i64 b1]⟩)) = some ([a0 == b0,a1 == b1].all id):=eq_top (eq_array (n:=1) Tryz.underlying36 (by kernel_rfl) (EqI.cons (part_atom (by kernel_rfl) rfl) (part_atom (by kernel_rfl) rfl) (eq_int (by kernel_rfl)) (EqI.cons (part_atom (by kernel_rfl) rfl) (part_atom (by kernel_rfl) rfl) (eq_int (by kernel_rfl)) (EqI.nil _))) rfl)
theorem fd24_0 : fieldT Tryz.prog 24 0 = some (0,3):=by kernel_rfl
theorem fd24_2 : fieldT Tryz.prog 24 2 = some (2,3):=by kernel_rfl
theorem fd29_0 : fieldT Tryz.prog 29 0 = some (0,26):=by kernel_rfl
theorem fd29_1 : fieldT Tryz.prog 29 1 = some (1,27):=by kernel_rfl
theorem fd29_2 : fieldT Tryz.prog 29 2 = some (2,3):=by kernel_rfl
theorem fd31_0 : fieldT Tryz.prog 31 0 = some (0,3):=by kernel_rfl
theorem fd31_1 : fieldT Tryz.prog 31 1 = some (1,3):=by kernel_rfl
theorem ni22 : notInt Tryz.prog (some 22) = true:=by kernel_rfl
theorem ni26 : notInt Tryz.prog (some 26) = true:=by kernel_rfl
theorem ni27 : notInt Tryz.prog (some 27) = true:=by kernel_rfl
theorem ok29 : okT Tryz.prog 29 = true:=by kernel_rfl
theorem ok3 : okT Tryz.prog 3 = true:=by kernel_rfl
theorem ok31 : okT Tryz.prog 31 = true:=by kernel_rfl
theorem ok36 : okT Tryz.prog 36 = true:=by kernel_rfl
theorem ok78 : okT Tryz.prog 78 = true:=by kernel_rfl
theorem so119 : sliceOf Tryz.prog 119 = some 78:=by kernel_rfl
theorem so22 : sliceOf Tryz.prog 22 = some 29:=by kernel_rfl
theorem so26 : sliceOf Tryz.prog 26 = some 3:=by kernel_rfl
theorem so27 : sliceOf Tryz.prog 27 = some 72:=by kernel_rfl
theorem so36 : sliceOf Tryz.prog 36 = none:=by kernel_rfl
theorem st29 : structT Tryz.prog 29 = some [(0,1),(1,1),(2,1)]:=by kernel_rfl
theorem st31 : structT Tryz.prog 31 = some [(0,1),(1,1)]:=by kernel_rfl
theorem st36 : structT Tryz.prog 36 = none:=by kernel_rfl
theorem un215 : Tryz.prog.underlying 215 = some (.int .u64):=by kernel_rfl
theorem un3 : Tryz.prog.underlying 3 = some (.int .i64):=by kernel_rfl
theorem wi64_0a1 : IntKind.i64.wrap (0 + 1) = 1:=by decide
theorem wi64_0a1073741824 : IntKind.i64.wrap (0 + 1073741824) = 1073741824:=by decide
theorem wi64_1073741824m1073741824 : IntKind.i64.wrap (1073741824 * 1073741824) = 1152921504606846976:=by decide
theorem wi64_1a1 : IntKind.i64.wrap (1 + 1) = 2:=by decide
theorem wi64_2a1 : IntKind.i64.wrap (2 + 1) = 3:=by decide
theorem zc29 : zeroC Tryz.prog 29 = some [.slice none 0 0,.slice none 0 0,.int .i64 0]:=by kernel_rfl
theorem zc3 : zeroC Tryz.prog 3 = some [.int .i64 0]:=by kernel_rfl
theorem zc31 : zeroC Tryz.prog 31 = some [.int .i64 0,.int .i64 0]:=by kernel_rfl
theorem zc36 : zeroC Tryz.prog 36 = some [.int .i64 0,.int .i64 0]:=by kernel_rfl
theorem zc72 : zeroC Tryz.prog 72 = some [.int .i64 0,.int .i64 0,.int .i64 0,.int .i64 0]:=by kernel_rfl
theorem zc78 : zeroC Tryz.prog 78 = some [.nilFunc]:=by kernel_rfl
theorem goFn4 : goFn Tryz.prog 4 = true:=by kernel_rfl
theorem goFn5 : goFn Tryz.prog 5 = true:=by kernel_rfl
theorem goFn6 : goFn Tryz.prog 6 = true:=by kernel_rfl
theorem goFn7 : goFn Tryz.prog 7 = true:=by kernel_rfl
theorem goFn8 : goFn Tryz.prog 8 = true:=by kernel_rfl
theorem goFn9 : goFn Tryz.prog 9 = true:=by kernel_rfl
theorem goFn10 : goFn Tryz.prog 10 = true:=by kernel_rfl
theorem goFn11 : goFn Tryz.prog 11 = true:=by kernel_rfl
theorem goFn12 : goFn Tryz.prog 12 = true:=by kernel_rfl
theorem goFn20 : goFn Tryz.prog 20 = true:=by kernel_rfl
theorem goFn21 : goFn Tryz.prog 21 = true:=by kernel_rfl
theorem goFn22 : goFn Tryz.prog 22 = true:=by kernel_rfl
theorem goFn23 : goFn Tryz.prog 23 = true:=by kernel_rfl
theorem goFn24 : goFn Tryz.prog 24 = true:=by kernel_rfl
theorem goFn25 : goFn Tryz.prog 25 = true:=by kernel_rfl
theorem goFn26 : goFn Tryz.prog 26 = true:=by kernel_rfl
theorem goFn27 : goFn Tryz.prog 27 = true:=by kernel_rfl
theorem goFn28 : goFn Tryz.prog 28 = true:=by kernel_rfl
theorem goFn32 : goFn Tryz.prog 32 = true:=by kernel_rfl
theorem goFn42 : goFn Tryz.prog 42 = true:=by kernel_rfl
theorem goFn43 : goFn Tryz.prog 43 = true:=by kernel_rfl
theorem goFn44 : goFn Tryz.prog 44 = true:=by kernel_rfl
theorem goFn45 : goFn Tryz.prog 45 = true:=by kernel_rfl
theorem goFn46 : goFn Tryz.prog 46 = true:=by kernel_rfl
theorem goFn47 : goFn Tryz.prog 47 = true:=by kernel_rfl
theorem goFn48 : goFn Tryz.prog 48 = true:=by kernel_rfl
theorem goFn49 : goFn Tryz.prog 49 = true:=by kernel_rfl
theorem goFn60 : goFn Tryz.prog 60 = true:=by kernel_rfl
theorem goFn72 : goFn Tryz.prog 72 = true:=by kernel_rfl
theorem goFn73 : goFn Tryz.prog 73 = true:=by kernel_rfl
theorem goFn74 : goFn Tryz.prog 74 = true:=by kernel_rfl
theorem goFn103 : goFn Tryz.prog 103 = true:=by kernel_rfl
theorem goFn104 : goFn Tryz.prog 104 = true:=by kernel_rfl
def zn := And.intro Bool.not_true Bool.not_false
def zp.{u} := @List.getElem?_toArray.{u}
def zs.{u, v} := @Option.bind_some.{u, v}
def zl.{u} := @List.toList_toArray.{u}

end Go.Rex
