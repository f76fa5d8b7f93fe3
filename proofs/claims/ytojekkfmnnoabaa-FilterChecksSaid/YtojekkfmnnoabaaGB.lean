/- Facts on types and functions of the program. -/
import Derived.Test.YtojekkfmnnoabaaS
import Derived.Test.YtojekkfmnnoabaaProg
set_option linter.unusedSimpArgs false
set_option linter.unusedVariables false
set_option linter.defProp false
namespace Go.Rex
open Go.Proofs
open Go Go.Rex Go.RowKit
set_option maxRecDepth 100000
theorem ag139 : aggB Try.prog 139 = some true := by kernel_rfl
theorem ag24 : aggB Try.prog 24 = some true := by kernel_rfl
theorem ag26 : aggB Try.prog 26 = some true := by kernel_rfl
theorem ag29 : aggB Try.prog 29 = some false := by kernel_rfl
theorem ag3 : aggB Try.prog 3 = some false := by kernel_rfl
theorem ag38 : aggB Try.prog 38 = some true := by kernel_rfl
theorem ag39 : aggB Try.prog 39 = some true := by kernel_rfl
theorem ar139 : arrayOf Try.prog 139 = some (5, 3) := by kernel_rfl
theorem ar23 : arrayOf Try.prog 23 = some (3, 3) := by kernel_rfl
theorem ar24 : arrayOf Try.prog 24 = some (2, 3) := by kernel_rfl
theorem ar39 : arrayOf Try.prog 39 = some (2, 38) := by kernel_rfl
theorem by26 : bytesT Try.prog 26 = 40 := by kernel_rfl
theorem cs139 : Try.prog.cellsOf 139 = 5 := by kernel_rfl
theorem cs24 : Try.prog.cellsOf 24 = 2 := by kernel_rfl
theorem cs26 : Try.prog.cellsOf 26 = 5 := by kernel_rfl
theorem cs29 : Try.prog.cellsOf 29 = 1 := by kernel_rfl
theorem cs3 : Try.prog.cellsOf 3 = 1 := by kernel_rfl
theorem cs38 : Try.prog.cellsOf 38 = 2 := by kernel_rfl
theorem cs39 : Try.prog.cellsOf 39 = 4 := by kernel_rfl
theorem eqg39 : Program.eqGuardType Try.prog Try.prog.depth 39 = false := by kernel_rfl
theorem eqs39 {a0 a1 a2 a3 b0 b1 b2 b3 : Int} : prun Try.prog (Op.equal 39 (.agg ⟨[.int .i64 a0, .int .i64 a1, .int .i64 a2, .int .i64 a3]⟩) (.agg ⟨[.int .i64 b0, .int .i64 b1, .int .i64 b2, .int .i64 b3]⟩)) = some ([[a0 == b0, a1 == b1].all id, [a2 == b2, a3 == b3].all id].all id) := eq_top (eq_array (n := 2) Try.underlying39 (by kernel_rfl) (EqI.cons (part_agg (n := 2) (v := (.agg ⟨[.int .i64 a0, .int .i64 a1]⟩)) (by kernel_rfl) (by kernel_rfl) rfl) (part_agg (n := 2) (v := (.agg ⟨[.int .i64 b0, .int .i64 b1]⟩)) (by kernel_rfl) (by kernel_rfl) rfl) (eq_struct Try.underlying38 (by kernel_rfl) (EqF.cons (by decide) (part_atom (by kernel_rfl) rfl) (part_atom (by kernel_rfl) rfl) (eq_int (by kernel_rfl)) (EqF.cons (by decide) (part_atom (by kernel_rfl) rfl) (part_atom (by kernel_rfl) rfl) (eq_int (by kernel_rfl)) EqF.nil))) (EqI.cons (part_agg (n := 2) (v := (.agg ⟨[.int .i64 a2, .int .i64 a3]⟩)) (by kernel_rfl) (by kernel_rfl) rfl) (part_agg (n := 2) (v := (.agg ⟨[.int .i64 b2, .int .i64 b3]⟩)) (by kernel_rfl) (by kernel_rfl) rfl) (eq_struct Try.underlying38 (by kernel_rfl) (EqF.cons (by decide) (part_atom (by kernel_rfl) rfl) (part_atom (by kernel_rfl) rfl) (eq_int (by kernel_rfl)) (EqF.cons (by decide) (part_atom (by kernel_rfl) rfl) (part_atom (by kernel_rfl) rfl) (eq_int (by kernel_rfl)) EqF.nil))) (EqI.nil _))) rfl)
theorem fd26_0 : fieldT Try.prog 26 0 = some (0, 23) := by kernel_rfl
theorem fd26_1 : fieldT Try.prog 26 1 = some (3, 24) := by kernel_rfl
theorem fd38_0 : fieldT Try.prog 38 0 = some (0, 3) := by kernel_rfl
theorem fd38_1 : fieldT Try.prog 38 1 = some (1, 3) := by kernel_rfl
theorem ni22 : notInt Try.prog (some 22) = true := by kernel_rfl
theorem ok139 : okT Try.prog 139 = true := by kernel_rfl
theorem ok24 : okT Try.prog 24 = true := by kernel_rfl
theorem ok26 : okT Try.prog 26 = true := by kernel_rfl
theorem ok29 : okT Try.prog 29 = true := by kernel_rfl
theorem ok3 : okT Try.prog 3 = true := by kernel_rfl
theorem ok38 : okT Try.prog 38 = true := by kernel_rfl
theorem ok39 : okT Try.prog 39 = true := by kernel_rfl
theorem so181 : sliceOf Try.prog 181 = some 29 := by kernel_rfl
theorem so22 : sliceOf Try.prog 22 = some 26 := by kernel_rfl
theorem so23 : sliceOf Try.prog 23 = none := by kernel_rfl
theorem so24 : sliceOf Try.prog 24 = none := by kernel_rfl
theorem so39 : sliceOf Try.prog 39 = none := by kernel_rfl
theorem so49 : sliceOf Try.prog 49 = some 3 := by kernel_rfl
theorem st139 : structT Try.prog 139 = none := by kernel_rfl
theorem st38 : structT Try.prog 38 = some [(0, 1), (1, 1)] := by kernel_rfl
theorem st39 : structT Try.prog 39 = none := by kernel_rfl
theorem ub4 : Try.prog.underlying 4 = some .bool := by kernel_rfl
theorem wi64_1 : IntKind.i64.wrap 1 = 1 := by decide
theorem zc139 : zeroC Try.prog 139 = some [.int .i64 0, .int .i64 0, .int .i64 0, .int .i64 0, .int .i64 0] := by kernel_rfl
theorem zc26 : zeroC Try.prog 26 = some [.int .i64 0, .int .i64 0, .int .i64 0, .int .i64 0, .int .i64 0] := by kernel_rfl
theorem zc29 : zeroC Try.prog 29 = some [.int .i64 0] := by kernel_rfl
theorem zc3 : zeroC Try.prog 3 = some [.int .i64 0] := by kernel_rfl
theorem zc38 : zeroC Try.prog 38 = some [.int .i64 0, .int .i64 0] := by kernel_rfl
theorem zc39 : zeroC Try.prog 39 = some [.int .i64 0, .int .i64 0, .int .i64 0, .int .i64 0] := by kernel_rfl
theorem goFn15 : goFn Try.prog 15 = true := by kernel_rfl
theorem goFn16 : goFn Try.prog 16 = true := by kernel_rfl
theorem goFn17 : goFn Try.prog 17 = true := by kernel_rfl
theorem goFn18 : goFn Try.prog 18 = true := by kernel_rfl
theorem goFn19 : goFn Try.prog 19 = true := by kernel_rfl
theorem goFn20 : goFn Try.prog 20 = true := by kernel_rfl
theorem goFn21 : goFn Try.prog 21 = true := by kernel_rfl
theorem goFn22 : goFn Try.prog 22 = true := by kernel_rfl
theorem goFn23 : goFn Try.prog 23 = true := by kernel_rfl
theorem goFn24 : goFn Try.prog 24 = true := by kernel_rfl
theorem goFn25 : goFn Try.prog 25 = true := by kernel_rfl
theorem goFn26 : goFn Try.prog 26 = true := by kernel_rfl
theorem goFn27 : goFn Try.prog 27 = true := by kernel_rfl
theorem goFn28 : goFn Try.prog 28 = true := by kernel_rfl
theorem goFn54 : goFn Try.prog 54 = true := by kernel_rfl
theorem goFn72 : goFn Try.prog 72 = true := by kernel_rfl
theorem goFn73 : goFn Try.prog 73 = true := by kernel_rfl
theorem goFn74 : goFn Try.prog 74 = true := by kernel_rfl
theorem goFn75 : goFn Try.prog 75 = true := by kernel_rfl
theorem goFn76 : goFn Try.prog 76 = true := by kernel_rfl
theorem goFn77 : goFn Try.prog 77 = true := by kernel_rfl
theorem goFn78 : goFn Try.prog 78 = true := by kernel_rfl
theorem goFn79 : goFn Try.prog 79 = true := by kernel_rfl
theorem goFn82 : goFn Try.prog 82 = true := by kernel_rfl
theorem goFn106 : goFn Try.prog 106 = true := by kernel_rfl
theorem goFn112 : goFn Try.prog 112 = true := by kernel_rfl
theorem goFn113 : goFn Try.prog 113 = true := by kernel_rfl
theorem goFn123 : goFn Try.prog 123 = true := by kernel_rfl

end Go.Rex
