/- Facts on types and functions of the program. -/
import Derived.Test.YtjlembaicmibhaaS
import Derived.Test.YtjlembaicmibhaaProg
set_option linter.unusedSimpArgs false
set_option linter.unusedVariables false
set_option linter.defProp false
namespace Go.Rex
open Go.Proofs
open Go Go.Rex Go.RowKit
set_option maxRecDepth 100000
theorem ag105 : aggB Try.prog 105 = some true:=by kernel_rfl
theorem ag125 : aggB Try.prog 125 = some false:=by kernel_rfl
theorem ag141 : aggB Try.prog 141 = some true:=by kernel_rfl
theorem ag22 : aggB Try.prog 22 = some false:=by kernel_rfl
theorem ag24 : aggB Try.prog 24 = some true:=by kernel_rfl
theorem ag26 : aggB Try.prog 26 = some true:=by kernel_rfl
theorem ag3 : aggB Try.prog 3 = some false:=by kernel_rfl
theorem ag30 : aggB Try.prog 30 = some true:=by kernel_rfl
theorem ag31 : aggB Try.prog 31 = some false:=by kernel_rfl
theorem ag39 : aggB Try.prog 39 = some false:=by kernel_rfl
theorem ag4 : aggB Try.prog 4 = some false:=by kernel_rfl
theorem ag86 : aggB Try.prog 86 = some true:=by kernel_rfl
theorem ag88 : aggB Try.prog 88 = some false:=by kernel_rfl
theorem ag90 : aggB Try.prog 90 = some true:=by kernel_rfl
theorem ag94 : aggB Try.prog 94 = some false:=by kernel_rfl
theorem ag97 : aggB Try.prog 97 = some false:=by kernel_rfl
theorem ar105 : arrayOf Try.prog 105 = some (2,3):=by kernel_rfl
theorem by105 : bytesT Try.prog 105 = 16:=by kernel_rfl
theorem by141 : bytesT Try.prog 141 = 16:=by kernel_rfl
theorem by26 : bytesT Try.prog 26 = 16:=by kernel_rfl
theorem by3 : bytesT Try.prog 3 = 8:=by kernel_rfl
theorem cs105 : Try.prog.cellsOf 105 = 2:=by kernel_rfl
theorem cs141 : Try.prog.cellsOf 141 = 2:=by kernel_rfl
theorem cs22 : Try.prog.cellsOf 22 = 1:=by kernel_rfl
theorem cs24 : Try.prog.cellsOf 24 = 2:=by kernel_rfl
theorem cs26 : Try.prog.cellsOf 26 = 2:=by kernel_rfl
theorem cs3 : Try.prog.cellsOf 3 = 1:=by kernel_rfl
theorem cs30 : Try.prog.cellsOf 30 = 3:=by kernel_rfl
theorem cs86 : Try.prog.cellsOf 86 = 2:=by kernel_rfl
theorem cs90 : Try.prog.cellsOf 90 = 3:=by kernel_rfl
theorem cs94 : Try.prog.cellsOf 94 = 1:=by kernel_rfl
theorem cs97 : Try.prog.cellsOf 97 = 1:=by kernel_rfl
theorem eqg26 : Program.eqGuardType Try.prog Try.prog.depth 26 = false:=by kernel_rfl
theorem eqs26 {a0 a1 b0 b1 : Int} : prun Try.prog (Op.equal 26 (.agg ⟨[.int .i64 a0,.int .i64 a1]⟩) (.agg ⟨[.int .i64 b0,.int .i64 b1]⟩)) = some ([a0 == b0,a1 == b1].all id):=eq_top (eq_struct Try.underlying26 (by kernel_rfl) (EqF.cons (by decide) (part_atom (by kernel_rfl) rfl) (part_atom (by kernel_rfl) rfl) (eq_int (by kernel_rfl)) (EqF.cons (by decide) (part_atom (by kernel_rfl) rfl) (part_atom (by kernel_rfl) rfl) (eq_int (by kernel_rfl)) EqF.nil)))
theorem fd141_0 : fieldT Try.prog 141 0 = some (0,3):=by kernel_rfl
theorem fd141_1 : fieldT Try.prog 141 1 = some (1,3):=by kernel_rfl
theorem fd24_0 : fieldT Try.prog 24 0 = some (0,22):=by kernel_rfl
theorem fd24_1 : fieldT Try.prog 24 1 = some (1,3):=by kernel_rfl
theorem fd26_0 : fieldT Try.prog 26 0 = some (0,3):=by kernel_rfl
theorem fd26_1 : fieldT Try.prog 26 1 = some (1,3):=by kernel_rfl
theorem fd30_0 : fieldT Try.prog 30 0 = some (0,3):=by kernel_rfl
theorem fd30_1 : fieldT Try.prog 30 1 = some (1,3):=by kernel_rfl
theorem fd30_2 : fieldT Try.prog 30 2 = some (2,3):=by kernel_rfl
theorem fd86_0 : fieldT Try.prog 86 0 = some (0,24):=by kernel_rfl
theorem fd90_0 : fieldT Try.prog 90 0 = some (0,86):=by kernel_rfl
theorem fd90_1 : fieldT Try.prog 90 1 = some (2,88):=by kernel_rfl
theorem ni22 : notInt Try.prog (some 22) = true:=by kernel_rfl
theorem ni39 : notInt Try.prog (some 39) = true:=by kernel_rfl
theorem ok105 : okT Try.prog 105 = true:=by kernel_rfl
theorem ok141 : okT Try.prog 141 = true:=by kernel_rfl
theorem ok22 : okT Try.prog 22 = true:=by kernel_rfl
theorem ok24 : okT Try.prog 24 = true:=by kernel_rfl
theorem ok26 : okT Try.prog 26 = true:=by kernel_rfl
theorem ok3 : okT Try.prog 3 = true:=by kernel_rfl
theorem ok30 : okT Try.prog 30 = true:=by kernel_rfl
theorem ok86 : okT Try.prog 86 = true:=by kernel_rfl
theorem ok90 : okT Try.prog 90 = true:=by kernel_rfl
theorem ok94 : okT Try.prog 94 = true:=by kernel_rfl
theorem ok97 : okT Try.prog 97 = true:=by kernel_rfl
theorem so105 : sliceOf Try.prog 105 = none:=by kernel_rfl
theorem so122 : sliceOf Try.prog 122 = some 94:=by kernel_rfl
theorem so22 : sliceOf Try.prog 22 = some 3:=by kernel_rfl
theorem so39 : sliceOf Try.prog 39 = some 26:=by kernel_rfl
theorem so49 : sliceOf Try.prog 49 = some 105:=by kernel_rfl
theorem so88 : sliceOf Try.prog 88 = some 141:=by kernel_rfl
theorem st105 : structT Try.prog 105 = none:=by kernel_rfl
theorem st141 : structT Try.prog 141 = some [(0,1),(1,1)]:=by kernel_rfl
theorem st26 : structT Try.prog 26 = some [(0,1),(1,1)]:=by kernel_rfl
theorem st30 : structT Try.prog 30 = some [(0,1),(1,1),(2,1)]:=by kernel_rfl
theorem st86 : structT Try.prog 86 = some [(0,2)]:=by kernel_rfl
theorem st90 : structT Try.prog 90 = some [(0,2),(2,1)]:=by kernel_rfl
theorem un153 : Try.prog.underlying 153 = some (.int .u64):=by kernel_rfl
theorem un157 : Try.prog.underlying 157 = some (.int .u64):=by kernel_rfl
theorem un3 : Try.prog.underlying 3 = some (.int .i64):=by kernel_rfl
theorem un5 : Try.prog.underlying 5 = some (.int .u8):=by kernel_rfl
theorem us9 : Try.prog.underlying 9 = some .string:=by kernel_rfl
theorem wi64_0a1 : IntKind.i64.wrap (0 + 1) = 1:=by decide
theorem wi64_0a1073741824 : IntKind.i64.wrap (0 + 1073741824) = 1073741824:=by decide
theorem wi64_0a16 : IntKind.i64.wrap (0 + 16) = 16:=by decide
theorem wi64_0a8 : IntKind.i64.wrap (0 + 8) = 8:=by decide
theorem wi64_1073741824m1073741824 : IntKind.i64.wrap (1073741824 * 1073741824) = 1152921504606846976:=by decide
theorem wi64_16a8 : IntKind.i64.wrap (16 + 8) = 24:=by decide
theorem wi64_1a1 : IntKind.i64.wrap (1 + 1) = 2:=by decide
theorem wi64_256a256 : IntKind.i64.wrap (256 + 256) = 512:=by decide
theorem wi64_256a512 : IntKind.i64.wrap (256 + 512) = 768:=by decide
theorem wi64_256s256 : IntKind.i64.wrap (256 - 256) = 0:=by decide
theorem wi64_2a1 : IntKind.i64.wrap (2 + 1) = 3:=by decide
theorem wi64_2m256 : IntKind.i64.wrap (2 * 256) = 512:=by decide
theorem wi64_32a16 : IntKind.i64.wrap (32 + 16) = 48:=by decide
theorem wi64_32a8 : IntKind.i64.wrap (32 + 8) = 40:=by decide
theorem wi64_3a1 : IntKind.i64.wrap (3 + 1) = 4:=by decide
theorem wi64_48a8 : IntKind.i64.wrap (48 + 8) = 56:=by decide
theorem zc105 : zeroC Try.prog 105 = some [.int .i64 0,.int .i64 0]:=by kernel_rfl
theorem zc141 : zeroC Try.prog 141 = some [.int .i64 0,.int .i64 0]:=by kernel_rfl
theorem zc24 : zeroC Try.prog 24 = some [.slice none 0 0,.int .i64 0]:=by kernel_rfl
theorem zc26 : zeroC Try.prog 26 = some [.int .i64 0,.int .i64 0]:=by kernel_rfl
theorem zc3 : zeroC Try.prog 3 = some [.int .i64 0]:=by kernel_rfl
theorem zc30 : zeroC Try.prog 30 = some [.int .i64 0,.int .i64 0,.int .i64 0]:=by kernel_rfl
theorem zc86 : zeroC Try.prog 86 = some [.slice none 0 0,.int .i64 0]:=by kernel_rfl
theorem zc90 : zeroC Try.prog 90 = some [.slice none 0 0,.int .i64 0,.slice none 0 0]:=by kernel_rfl
theorem zc94 : zeroC Try.prog 94 = some [.nilFunc]:=by kernel_rfl
theorem zc97 : zeroC Try.prog 97 = some [.nilFunc]:=by kernel_rfl
theorem goFn9 : goFn Try.prog 9 = true:=by kernel_rfl
theorem goFn10 : goFn Try.prog 10 = true:=by kernel_rfl
theorem goFn12 : goFn Try.prog 12 = true:=by kernel_rfl
theorem goFn16 : goFn Try.prog 16 = true:=by kernel_rfl
theorem goFn17 : goFn Try.prog 17 = true:=by kernel_rfl
theorem goFn18 : goFn Try.prog 18 = true:=by kernel_rfl
theorem goFn19 : goFn Try.prog 19 = true:=by kernel_rfl
theorem goFn20 : goFn Try.prog 20 = true:=by kernel_rfl
theorem goFn21 : goFn Try.prog 21 = true:=by kernel_rfl
theorem goFn22 : goFn Try.prog 22 = true:=by kernel_rfl
theorem goFn23 : goFn Try.prog 23 = true:=by kernel_rfl
theorem goFn24 : goFn Try.prog 24 = true:=by kernel_rfl
theorem goFn29 : goFn Try.prog 29 = true:=by kernel_rfl
theorem goFn34 : goFn Try.prog 34 = true:=by kernel_rfl
theorem goFn47 : goFn Try.prog 47 = true:=by kernel_rfl
theorem goFn48 : goFn Try.prog 48 = true:=by kernel_rfl
theorem goFn49 : goFn Try.prog 49 = true:=by kernel_rfl
theorem goFn50 : goFn Try.prog 50 = true:=by kernel_rfl
theorem goFn51 : goFn Try.prog 51 = true:=by kernel_rfl
theorem goFn52 : goFn Try.prog 52 = true:=by kernel_rfl
theorem goFn53 : goFn Try.prog 53 = true:=by kernel_rfl
theorem goFn54 : goFn Try.prog 54 = true:=by kernel_rfl
theorem goFn55 : goFn Try.prog 55 = true:=by kernel_rfl
theorem goFn56 : goFn Try.prog 56 = true:=by kernel_rfl
theorem goFn57 : goFn Try.prog 57 = true:=by kernel_rfl
theorem goFn58 : goFn Try.prog 58 = true:=by kernel_rfl
theorem goFn59 : goFn Try.prog 59 = true:=by kernel_rfl
theorem goFn60 : goFn Try.prog 60 = true:=by kernel_rfl
theorem goFn61 : goFn Try.prog 61 = true:=by kernel_rfl
theorem goFn62 : goFn Try.prog 62 = true:=by kernel_rfl
theorem goFn65 : goFn Try.prog 65 = true:=by kernel_rfl
theorem goFn73 : goFn Try.prog 73 = true:=by kernel_rfl
theorem goFn78 : goFn Try.prog 78 = true:=by kernel_rfl
theorem goFn79 : goFn Try.prog 79 = true:=by kernel_rfl
theorem goFn80 : goFn Try.prog 80 = true:=by kernel_rfl
theorem goFn81 : goFn Try.prog 81 = true:=by kernel_rfl
theorem goFn82 : goFn Try.prog 82 = true:=by kernel_rfl
theorem goFn83 : goFn Try.prog 83 = true:=by kernel_rfl
theorem goFn84 : goFn Try.prog 84 = true:=by kernel_rfl
theorem goFn85 : goFn Try.prog 85 = true:=by kernel_rfl
theorem goFn86 : goFn Try.prog 86 = true:=by kernel_rfl
theorem goFn87 : goFn Try.prog 87 = true:=by kernel_rfl
theorem goFn88 : goFn Try.prog 88 = true:=by kernel_rfl
theorem goFn89 : goFn Try.prog 89 = true:=by kernel_rfl
theorem goFn90 : goFn Try.prog 90 = true:=by kernel_rfl
theorem goFn91 : goFn Try.prog 91 = true:=by kernel_rfl
theorem goFn92 : goFn Try.prog 92 = true:=by kernel_rfl
theorem goFn93 : goFn Try.prog 93 = true:=by kernel_rfl
theorem goFn94 : goFn Try.prog 94 = true:=by kernel_rfl
theorem goFn95 : goFn Try.prog 95 = true:=by kernel_rfl
theorem goFn96 : goFn Try.prog 96 = true:=by kernel_rfl
theorem goFn97 : goFn Try.prog 97 = true:=by kernel_rfl
theorem goFn98 : goFn Try.prog 98 = true:=by kernel_rfl
theorem goFn99 : goFn Try.prog 99 = true:=by kernel_rfl
theorem goFn100 : goFn Try.prog 100 = true:=by kernel_rfl
theorem goFn101 : goFn Try.prog 101 = true:=by kernel_rfl
theorem goFn113 : goFn Try.prog 113 = true:=by kernel_rfl
theorem goFn117 : goFn Try.prog 117 = true:=by kernel_rfl
theorem goFn118 : goFn Try.prog 118 = true:=by kernel_rfl
theorem goFn119 : goFn Try.prog 119 = true:=by kernel_rfl
theorem goFn120 : goFn Try.prog 120 = true:=by kernel_rfl
theorem goFn121 : goFn Try.prog 121 = true:=by kernel_rfl
theorem goFn122 : goFn Try.prog 122 = true:=by kernel_rfl
theorem goFn123 : goFn Try.prog 123 = true:=by kernel_rfl
theorem goFn124 : goFn Try.prog 124 = true:=by kernel_rfl
theorem goFn130 : goFn Try.prog 130 = true:=by kernel_rfl
theorem goFn131 : goFn Try.prog 131 = true:=by kernel_rfl
theorem goFn132 : goFn Try.prog 132 = true:=by kernel_rfl
theorem goFn134 : goFn Try.prog 134 = true:=by kernel_rfl
theorem goFn136 : goFn Try.prog 136 = true:=by kernel_rfl
def zn := And.intro Bool.not_true Bool.not_false
def zp.{u} := @List.getElem?_toArray.{u}
def zs.{u, v} := @Option.bind_some.{u, v}
def zl.{u} := @List.toList_toArray.{u}

end Go.Rex
