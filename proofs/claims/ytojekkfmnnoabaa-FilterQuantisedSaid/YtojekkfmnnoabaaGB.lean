/- Facts on types and functions of the program. -/
import Derived.Test.YtojekkfmnnoabaaS
import Derived.Test.YtojekkfmnnoabaaProg
set_option linter.unusedSimpArgs false
set_option linter.unusedVariables false
set_option linter.defProp false
namespace Go.Rex
open Go.Proofs
open Go Go.Rex Go.RowKit
set_option maxRecDepth 100000
theorem ag139 : aggB Try.prog 139 = some true := by kernel_rfl
theorem ag26 : aggB Try.prog 26 = some true := by kernel_rfl
theorem ag29 : aggB Try.prog 29 = some false := by kernel_rfl
theorem ag3 : aggB Try.prog 3 = some false := by kernel_rfl
theorem ag38 : aggB Try.prog 38 = some true := by kernel_rfl
theorem ag61 : aggB Try.prog 61 = some true := by kernel_rfl
theorem ar139 : arrayOf Try.prog 139 = some (5, 3) := by kernel_rfl
theorem ar23 : arrayOf Try.prog 23 = some (3, 3) := by kernel_rfl
theorem ar24 : arrayOf Try.prog 24 = some (2, 3) := by kernel_rfl
theorem ar61 : arrayOf Try.prog 61 = some (5, 38) := by kernel_rfl
theorem ar66 : arrayOf Try.prog 66 = some (5, 3) := by kernel_rfl
theorem cs139 : Try.prog.cellsOf 139 = 5 := by kernel_rfl
theorem cs26 : Try.prog.cellsOf 26 = 5 := by kernel_rfl
theorem cs29 : Try.prog.cellsOf 29 = 1 := by kernel_rfl
theorem cs3 : Try.prog.cellsOf 3 = 1 := by kernel_rfl
theorem cs38 : Try.prog.cellsOf 38 = 2 := by kernel_rfl
theorem cs61 : Try.prog.cellsOf 61 = 10 := by kernel_rfl
theorem cs66 : Try.prog.cellsOf 66 = 5 := by kernel_rfl
theorem eqg26 : Program.eqGuardType Try.prog Try.prog.depth 26 = false := by kernel_rfl
theorem eqs26 {a0 a1 a2 a3 a4 b0 b1 b2 b3 b4 : Int} : prun Try.prog (Op.equal 26 (.agg ⟨[.int .i64 a0, .int .i64 a1, .int .i64 a2, .int .i64 a3, .int .i64 a4]⟩) (.agg ⟨[.int .i64 b0, .int .i64 b1, .int .i64 b2, .int .i64 b3, .int .i64 b4]⟩)) = some ([[a0 == b0, a1 == b1, a2 == b2].all id, [a3 == b3, a4 == b4].all id].all id) := eq_top (eq_struct Try.underlying26 (by kernel_rfl) (EqF.cons (by decide) (part_agg (n := 3) (v := (.agg ⟨[.int .i64 a0, .int .i64 a1, .int .i64 a2]⟩)) (by kernel_rfl) (by kernel_rfl) rfl) (part_agg (n := 3) (v := (.agg ⟨[.int .i64 b0, .int .i64 b1, .int .i64 b2]⟩)) (by kernel_rfl) (by kernel_rfl) rfl) (eq_array (n := 1) Try.underlying23 (by kernel_rfl) (EqI.cons (part_atom (by kernel_rfl) rfl) (part_atom (by kernel_rfl) rfl) (eq_int (by kernel_rfl)) (EqI.cons (part_atom (by kernel_rfl) rfl) (part_atom (by kernel_rfl) rfl) (eq_int (by kernel_rfl)) (EqI.cons (part_atom (by kernel_rfl) rfl) (part_atom (by kernel_rfl) rfl) (eq_int (by kernel_rfl)) (EqI.nil _)))) rfl) (EqF.cons (by decide) (part_agg (n := 2) (v := (.agg ⟨[.int .i64 a3, .int .i64 a4]⟩)) (by kernel_rfl) (by kernel_rfl) rfl) (part_agg (n := 2) (v := (.agg ⟨[.int .i64 b3, .int .i64 b4]⟩)) (by kernel_rfl) (by kernel_rfl) rfl) (eq_array (n := 1) Try.underlying24 (by kernel_rfl) (EqI.cons (part_atom (by kernel_rfl) rfl) (part_atom (by kernel_rfl) rfl) (eq_int (by kernel_rfl)) (EqI.cons (part_atom (by kernel_rfl) rfl) (part_atom (by kernel_rfl) rfl) (eq_int (by kernel_rfl)) (EqI.nil _))) rfl) EqF.nil)))
theorem fd26_0 : fieldT Try.prog 26 0 = some (0, 23) := by kernel_rfl
theorem fd26_1 : fieldT Try.prog 26 1 = some (3, 24) := by kernel_rfl
theorem fd38_0 : fieldT Try.prog 38 0 = some (0, 3) := by kernel_rfl
theorem fd38_1 : fieldT Try.prog 38 1 = some (1, 3) := by kernel_rfl
theorem ok139 : okT Try.prog 139 = true := by kernel_rfl
theorem ok26 : okT Try.prog 26 = true := by kernel_rfl
theorem ok29 : okT Try.prog 29 = true := by kernel_rfl
theorem ok3 : okT Try.prog 3 = true := by kernel_rfl
theorem ok38 : okT Try.prog 38 = true := by kernel_rfl
theorem ok61 : okT Try.prog 61 = true := by kernel_rfl
theorem ok66 : okT Try.prog 66 = true := by kernel_rfl
theorem so139 : sliceOf Try.prog 139 = none := by kernel_rfl
theorem so181 : sliceOf Try.prog 181 = some 29 := by kernel_rfl
theorem so23 : sliceOf Try.prog 23 = none := by kernel_rfl
theorem so24 : sliceOf Try.prog 24 = none := by kernel_rfl
theorem so49 : sliceOf Try.prog 49 = some 3 := by kernel_rfl
theorem so61 : sliceOf Try.prog 61 = none := by kernel_rfl
theorem so66 : sliceOf Try.prog 66 = none := by kernel_rfl
theorem st23 : structT Try.prog 23 = none := by kernel_rfl
theorem st24 : structT Try.prog 24 = none := by kernel_rfl
theorem st26 : structT Try.prog 26 = some [(0, 3), (3, 2)] := by kernel_rfl
theorem st66 : structT Try.prog 66 = none := by kernel_rfl
theorem wi64_1 : IntKind.i64.wrap 1 = 1 := by decide
theorem zc139 : zeroC Try.prog 139 = some [.int .i64 0, .int .i64 0, .int .i64 0, .int .i64 0, .int .i64 0] := by kernel_rfl
theorem zc23 : zeroC Try.prog 23 = some [.int .i64 0, .int .i64 0, .int .i64 0] := by kernel_rfl
theorem zc24 : zeroC Try.prog 24 = some [.int .i64 0, .int .i64 0] := by kernel_rfl
theorem zc26 : zeroC Try.prog 26 = some [.int .i64 0, .int .i64 0, .int .i64 0, .int .i64 0, .int .i64 0] := by kernel_rfl
theorem zc29 : zeroC Try.prog 29 = some [.int .i64 0] := by kernel_rfl
theorem zc3 : zeroC Try.prog 3 = some [.int .i64 0] := by kernel_rfl
theorem zc38 : zeroC Try.prog 38 = some [.int .i64 0, .int .i64 0] := by kernel_rfl
theorem zc66 : zeroC Try.prog 66 = some [.int .i64 0, .int .i64 0, .int .i64 0, .int .i64 0, .int .i64 0] := by kernel_rfl
theorem goFn15 : goFn Try.prog 15 = true := by kernel_rfl
theorem goFn28 : goFn Try.prog 28 = true := by kernel_rfl
theorem goFn37 : goFn Try.prog 37 = true := by kernel_rfl
theorem goFn38 : goFn Try.prog 38 = true := by kernel_rfl
theorem goFn54 : goFn Try.prog 54 = true := by kernel_rfl
theorem goFn65 : goFn Try.prog 65 = true := by kernel_rfl
theorem goFn74 : goFn Try.prog 74 = true := by kernel_rfl
theorem goFn75 : goFn Try.prog 75 = true := by kernel_rfl
theorem goFn78 : goFn Try.prog 78 = true := by kernel_rfl
theorem goFn82 : goFn Try.prog 82 = true := by kernel_rfl
theorem goFn83 : goFn Try.prog 83 = true := by kernel_rfl
theorem goFn84 : goFn Try.prog 84 = true := by kernel_rfl
theorem goFn85 : goFn Try.prog 85 = true := by kernel_rfl
theorem goFn101 : goFn Try.prog 101 = true := by kernel_rfl
theorem goFn107 : goFn Try.prog 107 = true := by kernel_rfl
theorem goFn108 : goFn Try.prog 108 = true := by kernel_rfl
theorem goFn112 : goFn Try.prog 112 = true := by kernel_rfl
theorem goFn113 : goFn Try.prog 113 = true := by kernel_rfl
theorem goFn114 : goFn Try.prog 114 = true := by kernel_rfl
theorem goFn115 : goFn Try.prog 115 = true := by kernel_rfl
theorem goFn123 : goFn Try.prog 123 = true := by kernel_rfl

end Go.Rex
