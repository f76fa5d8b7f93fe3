/- Facts on types and functions of the program. -/
import Derived.Test.YtojekkfmnnoabaaS
import Derived.Test.YtojekkfmnnoabaaProg
set_option linter.unusedSimpArgs false
set_option linter.unusedVariables false
set_option linter.defProp false
namespace Go.Rex
open Go.Proofs
open Go Go.Rex Go.RowKit
set_option maxRecDepth 100000
theorem ag114 : aggB Try.prog 114 = some true := by kernel_rfl
theorem ag126 : aggB Try.prog 126 = some true := by kernel_rfl
theorem ag139 : aggB Try.prog 139 = some true := by kernel_rfl
theorem ag169 : aggB Try.prog 169 = some true := by kernel_rfl
theorem ag172 : aggB Try.prog 172 = some false := by kernel_rfl
theorem ag174 : aggB Try.prog 174 = some true := by kernel_rfl
theorem ag23 : aggB Try.prog 23 = some true := by kernel_rfl
theorem ag26 : aggB Try.prog 26 = some true := by kernel_rfl
theorem ag29 : aggB Try.prog 29 = some false := by kernel_rfl
theorem ag3 : aggB Try.prog 3 = some false := by kernel_rfl
theorem ag38 : aggB Try.prog 38 = some true := by kernel_rfl
theorem ar139 : arrayOf Try.prog 139 = some (5, 3) := by kernel_rfl
theorem ar23 : arrayOf Try.prog 23 = some (3, 3) := by kernel_rfl
theorem ar24 : arrayOf Try.prog 24 = some (2, 3) := by kernel_rfl
theorem by26 : bytesT Try.prog 26 = 40 := by kernel_rfl
theorem cs114 : Try.prog.cellsOf 114 = 3 := by kernel_rfl
theorem cs126 : Try.prog.cellsOf 126 = 2 := by kernel_rfl
theorem cs139 : Try.prog.cellsOf 139 = 5 := by kernel_rfl
theorem cs169 : Try.prog.cellsOf 169 = 2 := by kernel_rfl
theorem cs174 : Try.prog.cellsOf 174 = 2 := by kernel_rfl
theorem cs23 : Try.prog.cellsOf 23 = 3 := by kernel_rfl
theorem cs26 : Try.prog.cellsOf 26 = 5 := by kernel_rfl
theorem cs29 : Try.prog.cellsOf 29 = 1 := by kernel_rfl
theorem cs3 : Try.prog.cellsOf 3 = 1 := by kernel_rfl
theorem cs38 : Try.prog.cellsOf 38 = 2 := by kernel_rfl
theorem eqg126 : Program.eqGuardType Try.prog Try.prog.depth 126 = false := by kernel_rfl
theorem eqs126 {a0 a1 b0 b1 : Int} : prun Try.prog (Op.equal 126 (.agg ⟨[.int .i64 a0, .int .i64 a1]⟩) (.agg ⟨[.int .i64 b0, .int .i64 b1]⟩)) = some ([a0 == b0, a1 == b1].all id) := eq_top (eq_struct Try.underlying126 (by kernel_rfl) (EqF.cons (by decide) (part_atom (by kernel_rfl) rfl) (part_atom (by kernel_rfl) rfl) (eq_int (by kernel_rfl)) (EqF.cons (by decide) (part_atom (by kernel_rfl) rfl) (part_atom (by kernel_rfl) rfl) (eq_int (by kernel_rfl)) EqF.nil)))
theorem fd114_0 : fieldT Try.prog 114 0 = some (0, 3) := by kernel_rfl
theorem fd114_1 : fieldT Try.prog 114 1 = some (1, 3) := by kernel_rfl
theorem fd114_2 : fieldT Try.prog 114 2 = some (2, 3) := by kernel_rfl
theorem fd126_0 : fieldT Try.prog 126 0 = some (0, 3) := by kernel_rfl
theorem fd126_1 : fieldT Try.prog 126 1 = some (1, 3) := by kernel_rfl
theorem fd169_0 : fieldT Try.prog 169 0 = some (0, 3) := by kernel_rfl
theorem fd169_1 : fieldT Try.prog 169 1 = some (1, 3) := by kernel_rfl
theorem fd174_0 : fieldT Try.prog 174 0 = some (0, 172) := by kernel_rfl
theorem fd174_1 : fieldT Try.prog 174 1 = some (1, 172) := by kernel_rfl
theorem fd26_0 : fieldT Try.prog 26 0 = some (0, 23) := by kernel_rfl
theorem fd26_1 : fieldT Try.prog 26 1 = some (3, 24) := by kernel_rfl
theorem fd38_0 : fieldT Try.prog 38 0 = some (0, 3) := by kernel_rfl
theorem fd38_1 : fieldT Try.prog 38 1 = some (1, 3) := by kernel_rfl
theorem ni22 : notInt Try.prog (some 22) = true := by kernel_rfl
theorem ok114 : okT Try.prog 114 = true := by kernel_rfl
theorem ok126 : okT Try.prog 126 = true := by kernel_rfl
theorem ok139 : okT Try.prog 139 = true := by kernel_rfl
theorem ok169 : okT Try.prog 169 = true := by kernel_rfl
theorem ok174 : okT Try.prog 174 = true := by kernel_rfl
theorem ok23 : okT Try.prog 23 = true := by kernel_rfl
theorem ok26 : okT Try.prog 26 = true := by kernel_rfl
theorem ok29 : okT Try.prog 29 = true := by kernel_rfl
theorem ok3 : okT Try.prog 3 = true := by kernel_rfl
theorem ok38 : okT Try.prog 38 = true := by kernel_rfl
theorem so181 : sliceOf Try.prog 181 = some 29 := by kernel_rfl
theorem so22 : sliceOf Try.prog 22 = some 26 := by kernel_rfl
theorem so23 : sliceOf Try.prog 23 = none := by kernel_rfl
theorem so24 : sliceOf Try.prog 24 = none := by kernel_rfl
theorem so49 : sliceOf Try.prog 49 = some 3 := by kernel_rfl
theorem st126 : structT Try.prog 126 = some [(0, 1), (1, 1)] := by kernel_rfl
theorem st139 : structT Try.prog 139 = none := by kernel_rfl
theorem st169 : structT Try.prog 169 = some [(0, 1), (1, 1)] := by kernel_rfl
theorem st174 : structT Try.prog 174 = some [(0, 1), (1, 1)] := by kernel_rfl
theorem st23 : structT Try.prog 23 = none := by kernel_rfl
theorem st38 : structT Try.prog 38 = some [(0, 1), (1, 1)] := by kernel_rfl
theorem un172 : Try.prog.underlying 172 = some (.int .u64) := by kernel_rfl
theorem un198 : Try.prog.underlying 198 = some (.int .u64) := by kernel_rfl
theorem un3 : Try.prog.underlying 3 = some (.int .i64) := by kernel_rfl
theorem un5 : Try.prog.underlying 5 = some (.int .u8) := by kernel_rfl
theorem us9 : Try.prog.underlying 9 = some .string := by kernel_rfl
theorem wi64_1 : IntKind.i64.wrap 1 = 1 := by decide
theorem wi64_16 : IntKind.i64.wrap 16 = 16 := by decide
theorem wi64_24 : IntKind.i64.wrap 24 = 24 := by decide
theorem wi64_40 : IntKind.i64.wrap 40 = 40 := by decide
theorem wi64_48 : IntKind.i64.wrap 48 = 48 := by decide
theorem wi64_56 : IntKind.i64.wrap 56 = 56 := by decide
theorem wi64_8 : IntKind.i64.wrap 8 = 8 := by decide
theorem zc126 : zeroC Try.prog 126 = some [.int .i64 0, .int .i64 0] := by kernel_rfl
theorem zc139 : zeroC Try.prog 139 = some [.int .i64 0, .int .i64 0, .int .i64 0, .int .i64 0, .int .i64 0] := by kernel_rfl
theorem zc169 : zeroC Try.prog 169 = some [.int .i64 0, .int .i64 0] := by kernel_rfl
theorem zc174 : zeroC Try.prog 174 = some [.int .u64 0, .int .u64 0] := by kernel_rfl
theorem zc23 : zeroC Try.prog 23 = some [.int .i64 0, .int .i64 0, .int .i64 0] := by kernel_rfl
theorem zc26 : zeroC Try.prog 26 = some [.int .i64 0, .int .i64 0, .int .i64 0, .int .i64 0, .int .i64 0] := by kernel_rfl
theorem zc29 : zeroC Try.prog 29 = some [.int .i64 0] := by kernel_rfl
theorem zc3 : zeroC Try.prog 3 = some [.int .i64 0] := by kernel_rfl
theorem zc38 : zeroC Try.prog 38 = some [.int .i64 0, .int .i64 0] := by kernel_rfl
theorem goFn15 : goFn Try.prog 15 = true := by kernel_rfl
theorem goFn16 : goFn Try.prog 16 = true := by kernel_rfl
theorem goFn17 : goFn Try.prog 17 = true := by kernel_rfl
theorem goFn18 : goFn Try.prog 18 = true := by kernel_rfl
theorem goFn20 : goFn Try.prog 20 = true := by kernel_rfl
theorem goFn24 : goFn Try.prog 24 = true := by kernel_rfl
theorem goFn25 : goFn Try.prog 25 = true := by kernel_rfl
theorem goFn54 : goFn Try.prog 54 = true := by kernel_rfl
theorem goFn57 : goFn Try.prog 57 = true := by kernel_rfl
theorem goFn62 : goFn Try.prog 62 = true := by kernel_rfl
theorem goFn63 : goFn Try.prog 63 = true := by kernel_rfl
theorem goFn68 : goFn Try.prog 68 = true := by kernel_rfl
theorem goFn69 : goFn Try.prog 69 = true := by kernel_rfl
theorem goFn70 : goFn Try.prog 70 = true := by kernel_rfl
theorem goFn72 : goFn Try.prog 72 = true := by kernel_rfl
theorem goFn74 : goFn Try.prog 74 = true := by kernel_rfl
theorem goFn75 : goFn Try.prog 75 = true := by kernel_rfl
theorem goFn76 : goFn Try.prog 76 = true := by kernel_rfl
theorem goFn77 : goFn Try.prog 77 = true := by kernel_rfl
theorem goFn78 : goFn Try.prog 78 = true := by kernel_rfl
theorem goFn82 : goFn Try.prog 82 = true := by kernel_rfl
theorem goFn85 : goFn Try.prog 85 = true := by kernel_rfl
theorem goFn86 : goFn Try.prog 86 = true := by kernel_rfl
theorem goFn100 : goFn Try.prog 100 = true := by kernel_rfl
theorem goFn102 : goFn Try.prog 102 = true := by kernel_rfl
theorem goFn103 : goFn Try.prog 103 = true := by kernel_rfl
theorem goFn104 : goFn Try.prog 104 = true := by kernel_rfl
theorem goFn105 : goFn Try.prog 105 = true := by kernel_rfl
theorem goFn109 : goFn Try.prog 109 = true := by kernel_rfl
theorem goFn110 : goFn Try.prog 110 = true := by kernel_rfl
theorem goFn111 : goFn Try.prog 111 = true := by kernel_rfl
theorem goFn112 : goFn Try.prog 112 = true := by kernel_rfl
theorem goFn113 : goFn Try.prog 113 = true := by kernel_rfl
theorem goFn115 : goFn Try.prog 115 = true := by kernel_rfl
theorem goFn118 : goFn Try.prog 118 = true := by kernel_rfl
theorem goFn119 : goFn Try.prog 119 = true := by kernel_rfl
theorem goFn120 : goFn Try.prog 120 = true := by kernel_rfl
theorem goFn121 : goFn Try.prog 121 = true := by kernel_rfl
theorem goFn122 : goFn Try.prog 122 = true := by kernel_rfl
theorem goFn124 : goFn Try.prog 124 = true := by kernel_rfl
theorem goFn125 : goFn Try.prog 125 = true := by kernel_rfl
theorem goFn128 : goFn Try.prog 128 = true := by kernel_rfl
theorem goFn129 : goFn Try.prog 129 = true := by kernel_rfl
theorem goFn132 : goFn Try.prog 132 = true := by kernel_rfl
theorem goFn136 : goFn Try.prog 136 = true := by kernel_rfl
theorem goFn140 : goFn Try.prog 140 = true := by kernel_rfl

end Go.Rex
