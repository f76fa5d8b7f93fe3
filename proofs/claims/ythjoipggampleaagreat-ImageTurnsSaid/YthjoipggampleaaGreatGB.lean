/- Facts on types and functions of the program. -/
import Derived.Test.YthjoipggampleaaGreatS
import Derived.Test.YthjoipggampleaaGreatProg
set_option linter.unusedSimpArgs false
set_option linter.unusedVariables false
set_option linter.defProp false
namespace Go.Rex
open Go.Proofs
open Go Go.Rex Go.RowKit
set_option maxRecDepth 100000
theorem ag3 : aggB Tryz.prog 3 = some false := by kernel_rfl
theorem ag31 : aggB Tryz.prog 31 = some false := by kernel_rfl
theorem ag4 : aggB Tryz.prog 4 = some false := by kernel_rfl
theorem ag58 : aggB Tryz.prog 58 = some true := by kernel_rfl
theorem ag59 : aggB Tryz.prog 59 = some true := by kernel_rfl
theorem ag98 : aggB Tryz.prog 98 = some false := by kernel_rfl
theorem cs58 : Tryz.prog.cellsOf 58 = 2 := by kernel_rfl
theorem cs59 : Tryz.prog.cellsOf 59 = 2 := by kernel_rfl
theorem cs98 : Tryz.prog.cellsOf 98 = 1 := by kernel_rfl
theorem eqg58 : Program.eqGuardType Tryz.prog Tryz.prog.depth 58 = false := by kernel_rfl
theorem eqg59 : Program.eqGuardType Tryz.prog Tryz.prog.depth 59 = false := by kernel_rfl
theorem eqs58 {a0 a1 b0 b1 : Int} : prun Tryz.prog (Op.equal 58 (.agg ⟨[.int .i64 a0, .int .i64 a1]⟩) (.agg ⟨[.int .i64 b0, .int .i64 b1]⟩)) = some ([a0 == b0, a1 == b1].all id) := eq_top (eq_struct Tryz.underlying58 (by kernel_rfl) (EqF.cons (by decide) (part_atom (by kernel_rfl) rfl) (part_atom (by kernel_rfl) rfl) (eq_int (by kernel_rfl)) (EqF.cons (by decide) (part_atom (by kernel_rfl) rfl) (part_atom (by kernel_rfl) rfl) (eq_int (by kernel_rfl)) EqF.nil)))
theorem eqs59 {a0 a1 b0 b1 : Int} : prun Tryz.prog (Op.equal 59 (.agg ⟨[.int .i64 a0, .int .i64 a1]⟩) (.agg ⟨[.int .i64 b0, .int .i64 b1]⟩)) = some ([a0 == b0, a1 == b1].all id) := eq_top (eq_struct Tryz.underlying59 (by kernel_rfl) (EqF.cons (by decide) (part_atom (by kernel_rfl) rfl) (part_atom (by kernel_rfl) rfl) (eq_int (by kernel_rfl)) (EqF.cons (by decide) (part_atom (by kernel_rfl) rfl) (part_atom (by kernel_rfl) rfl) (eq_int (by kernel_rfl)) EqF.nil)))
theorem fd58_0 : fieldT Tryz.prog 58 0 = some (0, 3) := by kernel_rfl
theorem fd58_1 : fieldT Tryz.prog 58 1 = some (1, 3) := by kernel_rfl
theorem fd59_0 : fieldT Tryz.prog 59 0 = some (0, 3) := by kernel_rfl
theorem fd59_1 : fieldT Tryz.prog 59 1 = some (1, 3) := by kernel_rfl
theorem fd61_0 : fieldT Tryz.prog 61 0 = some (0, 58) := by kernel_rfl
theorem fd61_1 : fieldT Tryz.prog 61 1 = some (2, 58) := by kernel_rfl
theorem fd61_2 : fieldT Tryz.prog 61 2 = some (4, 58) := by kernel_rfl
theorem fd61_3 : fieldT Tryz.prog 61 3 = some (6, 59) := by kernel_rfl
theorem fd61_4 : fieldT Tryz.prog 61 4 = some (8, 59) := by kernel_rfl
theorem ok58 : okT Tryz.prog 58 = true := by kernel_rfl
theorem ok59 : okT Tryz.prog 59 = true := by kernel_rfl
theorem ok98 : okT Tryz.prog 98 = true := by kernel_rfl
theorem so146 : sliceOf Tryz.prog 146 = some 98 := by kernel_rfl
theorem st58 : structT Tryz.prog 58 = some [(0, 1), (1, 1)] := by kernel_rfl
theorem ub4 : Tryz.prog.underlying 4 = some .bool := by kernel_rfl
theorem wi64_0a1 : IntKind.i64.wrap (0 + 1) = 1 := by decide
theorem wi64_1a1 : IntKind.i64.wrap (1 + 1) = 2 := by decide
theorem wi64_2a1 : IntKind.i64.wrap (2 + 1) = 3 := by decide
theorem zc58 : zeroC Tryz.prog 58 = some [.int .i64 0, .int .i64 0] := by kernel_rfl
theorem zc98 : zeroC Tryz.prog 98 = some [.nilFunc] := by kernel_rfl
theorem goFn6 : goFn Tryz.prog 6 = true := by kernel_rfl
theorem goFn18 : goFn Tryz.prog 18 = true := by kernel_rfl
theorem goFn26 : goFn Tryz.prog 26 = true := by kernel_rfl
theorem goFn27 : goFn Tryz.prog 27 = true := by kernel_rfl
theorem goFn28 : goFn Tryz.prog 28 = true := by kernel_rfl
theorem goFn29 : goFn Tryz.prog 29 = true := by kernel_rfl
theorem goFn30 : goFn Tryz.prog 30 = true := by kernel_rfl
theorem goFn40 : goFn Tryz.prog 40 = true := by kernel_rfl
theorem goFn43 : goFn Tryz.prog 43 = true := by kernel_rfl
theorem goFn52 : goFn Tryz.prog 52 = true := by kernel_rfl
theorem goFn53 : goFn Tryz.prog 53 = true := by kernel_rfl
theorem goFn54 : goFn Tryz.prog 54 = true := by kernel_rfl
theorem goFn55 : goFn Tryz.prog 55 = true := by kernel_rfl
theorem goFn56 : goFn Tryz.prog 56 = true := by kernel_rfl
theorem goFn57 : goFn Tryz.prog 57 = true := by kernel_rfl
theorem goFn58 : goFn Tryz.prog 58 = true := by kernel_rfl
theorem goFn59 : goFn Tryz.prog 59 = true := by kernel_rfl
theorem goFn60 : goFn Tryz.prog 60 = true := by kernel_rfl
theorem goFn79 : goFn Tryz.prog 79 = true := by kernel_rfl
theorem goFn80 : goFn Tryz.prog 80 = true := by kernel_rfl
theorem goFn81 : goFn Tryz.prog 81 = true := by kernel_rfl
theorem goFn82 : goFn Tryz.prog 82 = true := by kernel_rfl
theorem goFn83 : goFn Tryz.prog 83 = true := by kernel_rfl
theorem goFn84 : goFn Tryz.prog 84 = true := by kernel_rfl
def zn := And.intro Bool.not_true Bool.not_false
def zp.{u} := @List.getElem?_toArray.{u}
def zs.{u, v} := @Option.bind_some.{u, v}
def zl.{u} := @List.toList_toArray.{u}

end Go.Rex
