/- Facts on types and functions of the program. -/
import Derived.Test.YtnnmnciaopaciaaS
import Derived.Test.YtnnmnciaopaciaaProg
set_option linter.unusedSimpArgs false
set_option linter.unusedVariables false
namespace Go.Rex
open Go.Proofs
open Go Go.Rex Go.RowKit
set_option maxRecDepth 100000
theorem ag121 : aggB Try.prog 121 = some false := by kernel_rfl
theorem ag150 : aggB Try.prog 150 = some true := by kernel_rfl
theorem ag26 : aggB Try.prog 26 = some false := by kernel_rfl
theorem ag3 : aggB Try.prog 3 = some false := by kernel_rfl
theorem ag4 : aggB Try.prog 4 = some false := by kernel_rfl
theorem ag76 : aggB Try.prog 76 = some true := by kernel_rfl
theorem by3 : bytesT Try.prog 3 = 8 := by kernel_rfl
theorem cs121 : Try.prog.cellsOf 121 = 1 := by kernel_rfl
theorem cs150 : Try.prog.cellsOf 150 = 3 := by kernel_rfl
theorem cs3 : Try.prog.cellsOf 3 = 1 := by kernel_rfl
theorem cs76 : Try.prog.cellsOf 76 = 3 := by kernel_rfl
theorem eqg76 : Program.eqGuardType Try.prog Try.prog.depth 76 = false := by kernel_rfl
theorem eqs76 {a0 a1 a2 b0 b1 b2 : Int} : prun Try.prog (Op.equal 76 (.agg ⟨[.int .i64 a0, .int .i64 a1, .int .i64 a2]⟩) (.agg ⟨[.int .i64 b0, .int .i64 b1, .int .i64 b2]⟩)) = some ([a0 == b0, a1 == b1, a2 == b2].all id) := by
  refine eq_top (eq_struct Try.underlying76 (by kernel_rfl) ?_)
  refine EqF.cons (by decide) (part_atom (by kernel_rfl) rfl) (part_atom (by kernel_rfl) rfl) (eq_int (by kernel_rfl)) ?_
  refine EqF.cons (by decide) (part_atom (by kernel_rfl) rfl) (part_atom (by kernel_rfl) rfl) (eq_int (by kernel_rfl)) ?_
  refine EqF.cons (by decide) (part_atom (by kernel_rfl) rfl) (part_atom (by kernel_rfl) rfl) (eq_int (by kernel_rfl)) ?_
  exact EqF.nil
theorem fd150_0 : fieldT Try.prog 150 0 = some (0, 76) := by kernel_rfl
theorem fd76_0 : fieldT Try.prog 76 0 = some (0, 3) := by kernel_rfl
theorem fd76_1 : fieldT Try.prog 76 1 = some (1, 3) := by kernel_rfl
theorem fd76_2 : fieldT Try.prog 76 2 = some (2, 3) := by kernel_rfl
theorem ni22 : notInt Try.prog (some 22) = true := by kernel_rfl
theorem ok121 : okT Try.prog 121 = true := by kernel_rfl
theorem ok150 : okT Try.prog 150 = true := by kernel_rfl
theorem ok3 : okT Try.prog 3 = true := by kernel_rfl
theorem ok76 : okT Try.prog 76 = true := by kernel_rfl
theorem so168 : sliceOf Try.prog 168 = some 121 := by kernel_rfl
theorem so22 : sliceOf Try.prog 22 = some 3 := by kernel_rfl
theorem st150 : structT Try.prog 150 = some [(0, 3)] := by kernel_rfl
theorem st76 : structT Try.prog 76 = some [(0, 1), (1, 1), (2, 1)] := by kernel_rfl
theorem wi64_1 : IntKind.i64.wrap 1 = 1 := by decide
theorem wi64_2 : IntKind.i64.wrap 2 = 2 := by decide
theorem wi64_3 : IntKind.i64.wrap 3 = 3 := by decide
theorem wi64_4 : IntKind.i64.wrap 4 = 4 := by decide
theorem wi64_5 : IntKind.i64.wrap 5 = 5 := by decide
theorem wi64_6 : IntKind.i64.wrap 6 = 6 := by decide
theorem zc121 : zeroC Try.prog 121 = some [.nilFunc] := by kernel_rfl
theorem zc150 : zeroC Try.prog 150 = some [.int .i64 0, .int .i64 0, .int .i64 0] := by kernel_rfl
theorem zc3 : zeroC Try.prog 3 = some [.int .i64 0] := by kernel_rfl
theorem zc76 : zeroC Try.prog 76 = some [.int .i64 0, .int .i64 0, .int .i64 0] := by kernel_rfl
theorem goFn15 : goFn Try.prog 15 = true := by kernel_rfl
theorem goFn23 : goFn Try.prog 23 = true := by kernel_rfl
theorem goFn38 : goFn Try.prog 38 = true := by kernel_rfl
theorem goFn50 : goFn Try.prog 50 = true := by kernel_rfl
theorem goFn51 : goFn Try.prog 51 = true := by kernel_rfl
theorem goFn52 : goFn Try.prog 52 = true := by kernel_rfl
theorem goFn53 : goFn Try.prog 53 = true := by kernel_rfl
theorem goFn59 : goFn Try.prog 59 = true := by kernel_rfl
theorem goFn73 : goFn Try.prog 73 = true := by kernel_rfl
theorem goFn76 : goFn Try.prog 76 = true := by kernel_rfl
theorem goFn79 : goFn Try.prog 79 = true := by kernel_rfl
theorem goFn93 : goFn Try.prog 93 = true := by kernel_rfl
theorem goFn108 : goFn Try.prog 108 = true := by kernel_rfl
theorem goFn109 : goFn Try.prog 109 = true := by kernel_rfl
theorem goFn110 : goFn Try.prog 110 = true := by kernel_rfl
theorem goFn111 : goFn Try.prog 111 = true := by kernel_rfl
theorem goFn112 : goFn Try.prog 112 = true := by kernel_rfl
theorem goFn113 : goFn Try.prog 113 = true := by kernel_rfl
theorem goFn114 : goFn Try.prog 114 = true := by kernel_rfl
theorem goFn115 : goFn Try.prog 115 = true := by kernel_rfl
theorem goFn116 : goFn Try.prog 116 = true := by kernel_rfl
theorem goFn140 : goFn Try.prog 140 = true := by kernel_rfl
theorem goFn144 : goFn Try.prog 144 = true := by kernel_rfl
theorem goFn158 : goFn Try.prog 158 = true := by kernel_rfl
theorem goFn159 : goFn Try.prog 159 = true := by kernel_rfl

end Go.Rex
