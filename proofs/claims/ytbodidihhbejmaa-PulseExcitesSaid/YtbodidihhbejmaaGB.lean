/- Facts on types and functions of the program. -/
import Derived.Test.YtbodidihhbejmaaS
import Derived.Test.YtbodidihhbejmaaRexG11
import Derived.Test.YtbodidihhbejmaaProg
set_option linter.unusedSimpArgs false
set_option linter.unusedVariables false
set_option linter.defProp false
namespace Go.Rex
open Go.Proofs
open Go Go.Rex Go.RowKit
set_option maxRecDepth 100000
theorem ag109 : aggB Try.prog 109 = some true:=by kernel_rfl
theorem ag118 : aggB Try.prog 118 = some false:=by kernel_rfl
theorem ag23 : aggB Try.prog 23 = some false:=by kernel_rfl
theorem ag24 : aggB Try.prog 24 = some false:=by kernel_rfl
theorem ag26 : aggB Try.prog 26 = some true:=by kernel_rfl
theorem ag3 : aggB Try.prog 3 = some false:=by kernel_rfl
theorem ag31 : aggB Try.prog 31 = some false:=by kernel_rfl
theorem ag32 : aggB Try.prog 32 = some false:=by kernel_rfl
theorem ag4 : aggB Try.prog 4 = some false:=by kernel_rfl
theorem ag47 : aggB Try.prog 47 = some true:=by kernel_rfl
theorem ag49 : aggB Try.prog 49 = some false:=by kernel_rfl
theorem ag51 : aggB Try.prog 51 = some false:=by kernel_rfl
theorem ag55 : aggB Try.prog 55 = some false:=by kernel_rfl
theorem ag56 : aggB Try.prog 56 = some false:=by kernel_rfl
theorem ag58 : aggB Try.prog 58 = some true:=by kernel_rfl
theorem ag59 : aggB Try.prog 59 = some true:=by kernel_rfl
theorem ag80 : aggB Try.prog 80 = some false:=by kernel_rfl
theorem ag84 : aggB Try.prog 84 = some false:=by kernel_rfl
theorem ag88 : aggB Try.prog 88 = some true:=by kernel_rfl
theorem ag91 : aggB Try.prog 91 = some false:=by kernel_rfl
theorem ar115 : arrayOf Try.prog 115 = some (4,49):=by kernel_rfl
theorem ar139 : arrayOf Try.prog 139 = some (4,47):=by kernel_rfl
theorem ar47 : arrayOf Try.prog 47 = some (2,3):=by kernel_rfl
theorem ar59 : arrayOf Try.prog 59 = some (2,58):=by kernel_rfl
theorem ar71 : arrayOf Try.prog 71 = some (2,51):=by kernel_rfl
theorem ar_129 : archP Try.prog 129 = true:=by kernel_rfl
theorem by109 : bytesT Try.prog 109 = 16:=by kernel_rfl
theorem by3 : bytesT Try.prog 3 = 8:=by kernel_rfl
theorem by31 : bytesT Try.prog 31 = 24:=by kernel_rfl
theorem by47 : bytesT Try.prog 47 = 16:=by kernel_rfl
theorem by49 : bytesT Try.prog 49 = 8:=by kernel_rfl
theorem by51 : bytesT Try.prog 51 = 4:=by kernel_rfl
theorem cs109 : Try.prog.cellsOf 109 = 2:=by kernel_rfl
theorem cs115 : Try.prog.cellsOf 115 = 4:=by kernel_rfl
theorem cs23 : Try.prog.cellsOf 23 = 1:=by kernel_rfl
theorem cs24 : Try.prog.cellsOf 24 = 1:=by kernel_rfl
theorem cs26 : Try.prog.cellsOf 26 = 2:=by kernel_rfl
theorem cs3 : Try.prog.cellsOf 3 = 1:=by kernel_rfl
theorem cs31 : Try.prog.cellsOf 31 = 1:=by kernel_rfl
theorem cs47 : Try.prog.cellsOf 47 = 2:=by kernel_rfl
theorem cs49 : Try.prog.cellsOf 49 = 1:=by kernel_rfl
theorem cs51 : Try.prog.cellsOf 51 = 1:=by kernel_rfl
theorem cs56 : Try.prog.cellsOf 56 = 1:=by kernel_rfl
theorem cs58 : Try.prog.cellsOf 58 = 2:=by kernel_rfl
theorem cs59 : Try.prog.cellsOf 59 = 4:=by kernel_rfl
theorem cs71 : Try.prog.cellsOf 71 = 2:=by kernel_rfl
theorem cs80 : Try.prog.cellsOf 80 = 1:=by kernel_rfl
theorem cs88 : Try.prog.cellsOf 88 = 2:=by kernel_rfl
theorem cs91 : Try.prog.cellsOf 91 = 1:=by kernel_rfl
theorem eqg109 : Program.eqGuardType Try.prog Try.prog.depth 109 = false:=by kernel_rfl
theorem eqg47 : Program.eqGuardType Try.prog Try.prog.depth 47 = false:=by kernel_rfl
theorem eqs109 {a0 a1 b0 b1 : Int} : prun Try.prog (Op.equal 109 (.agg ⟨[.int .i64 a0,.int .i64 a1]⟩) (.agg ⟨[.int .i64 b0,.int .i64 b1]⟩)) = some ([a0 == b0,a1 == b1].all id):=eq_top (eq_struct Try.underlying109 (by kernel_rfl) (EqF.cons (by decide) (part_atom (by kernel_rfl) rfl) (part_atom (by kernel_rfl) rfl) (eq_int (by kernel_rfl)) (EqF.cons (by decide) (part_atom (by kernel_rfl) rfl) (part_atom (by kernel_rfl) rfl) (eq_int (by kernel_rfl)) EqF.nil)))
theorem eqs47 {a0 a1 b0 b1 : Int} : prun Try.prog (Op.equal 47 (.agg ⟨[.int .i64 a0,.int .i64 a1]⟩) (.agg ⟨[.int .i64 b0,.int .i64 b1]⟩)) = some ([a0 == b0,a1 == b1].all id):=eq_top (eq_array (n:=1) Try.underlying47 (by kernel_rfl) (EqI.cons (part_atom (by kernel_rfl) rfl) (part_atom (by kernel_rfl) rfl) (eq_int (by kernel_rfl)) (EqI.cons (part_atom (by kernel_rfl) rfl) (part_atom (by kernel_rfl) rfl) (eq_int (by kernel_rfl)) (EqI.nil _))) rfl)
theorem ex102 : extF Try.prog 102 = some Extern.MathFloatBits.float32bits:=by kernel_rfl
theorem ex129 : extF Try.prog 129 = some (Extern.MathFloor.toIntegral "math.archTrunc" .zero) := by kernel_rfl
theorem ex133 : extF Try.prog 133 = some Extern.MathFloatBits.float64frombits:=by kernel_rfl
theorem ex97 : extF Try.prog 97 = some Extern.MathFloatBits.float64bits:=by kernel_rfl
theorem fd109_0 : fieldT Try.prog 109 0 = some (0,3):=by kernel_rfl
theorem fd109_1 : fieldT Try.prog 109 1 = some (1,3):=by kernel_rfl
theorem fd26_0 : fieldT Try.prog 26 0 = some (0,3):=by kernel_rfl
theorem fd26_1 : fieldT Try.prog 26 1 = some (1,24):=by kernel_rfl
theorem fd28_0 : fieldT Try.prog 28 0 = some (0,26):=by kernel_rfl
theorem fd28_1 : fieldT Try.prog 28 1 = some (2,3):=by kernel_rfl
theorem fd58_0 : fieldT Try.prog 58 0 = some (0,3):=by kernel_rfl
theorem fd58_1 : fieldT Try.prog 58 1 = some (1,56):=by kernel_rfl
theorem fd88_0 : fieldT Try.prog 88 0 = some (0,26):=by kernel_rfl
theorem ni24 : notInt Try.prog (some 24) = true:=by kernel_rfl
theorem ni31 : notInt Try.prog (some 31) = true:=by kernel_rfl
theorem ni46 : notInt Try.prog (some 46) = true:=by kernel_rfl
theorem ni55 : notInt Try.prog (some 55) = true:=by kernel_rfl
theorem ni56 : notInt Try.prog (some 56) = true:=by kernel_rfl
theorem ni84 : notInt Try.prog (some 84) = true:=by kernel_rfl
theorem ok109 : okT Try.prog 109 = true:=by kernel_rfl
theorem ok115 : okT Try.prog 115 = true:=by kernel_rfl
theorem ok23 : okT Try.prog 23 = true:=by kernel_rfl
theorem ok24 : okT Try.prog 24 = true:=by kernel_rfl
theorem ok26 : okT Try.prog 26 = true:=by kernel_rfl
theorem ok3 : okT Try.prog 3 = true:=by kernel_rfl
theorem ok31 : okT Try.prog 31 = true:=by kernel_rfl
theorem ok47 : okT Try.prog 47 = true:=by kernel_rfl
theorem ok49 : okT Try.prog 49 = true:=by kernel_rfl
theorem ok51 : okT Try.prog 51 = true:=by kernel_rfl
theorem ok56 : okT Try.prog 56 = true:=by kernel_rfl
theorem ok58 : okT Try.prog 58 = true:=by kernel_rfl
theorem ok59 : okT Try.prog 59 = true:=by kernel_rfl
theorem ok71 : okT Try.prog 71 = true:=by kernel_rfl
theorem ok80 : okT Try.prog 80 = true:=by kernel_rfl
theorem ok88 : okT Try.prog 88 = true:=by kernel_rfl
theorem ok91 : okT Try.prog 91 = true:=by kernel_rfl
theorem so115 : sliceOf Try.prog 115 = none:=by kernel_rfl
theorem so128 : sliceOf Try.prog 128 = some 80:=by kernel_rfl
theorem so139 : sliceOf Try.prog 139 = none:=by kernel_rfl
theorem so23 : sliceOf Try.prog 23 = some 71:=by kernel_rfl
theorem so24 : sliceOf Try.prog 24 = some 3:=by kernel_rfl
theorem so31 : sliceOf Try.prog 31 = some 49:=by kernel_rfl
theorem so46 : sliceOf Try.prog 46 = some 47:=by kernel_rfl
theorem so47 : sliceOf Try.prog 47 = none:=by kernel_rfl
theorem so54 : sliceOf Try.prog 54 = some 23:=by kernel_rfl
theorem so55 : sliceOf Try.prog 55 = some 31:=by kernel_rfl
theorem so56 : sliceOf Try.prog 56 = some 51:=by kernel_rfl
theorem so59 : sliceOf Try.prog 59 = none:=by kernel_rfl
theorem so71 : sliceOf Try.prog 71 = none:=by kernel_rfl
theorem so84 : sliceOf Try.prog 84 = some 109:=by kernel_rfl
theorem st109 : structT Try.prog 109 = some [(0,1),(1,1)]:=by kernel_rfl
theorem st115 : structT Try.prog 115 = none:=by kernel_rfl
theorem st139 : structT Try.prog 139 = none:=by kernel_rfl
theorem st26 : structT Try.prog 26 = some [(0,1),(1,1)]:=by kernel_rfl
theorem st47 : structT Try.prog 47 = none:=by kernel_rfl
theorem st58 : structT Try.prog 58 = some [(0,1),(1,1)]:=by kernel_rfl
theorem st59 : structT Try.prog 59 = none:=by kernel_rfl
theorem st88 : structT Try.prog 88 = some [(0,2)]:=by kernel_rfl
theorem un105 : Try.prog.underlying 105 = some (.complex .f64):=by kernel_rfl
theorem un132 : Try.prog.underlying 132 = some (.float .f64):=by kernel_rfl
theorem un3 : Try.prog.underlying 3 = some (.int .i64):=by kernel_rfl
theorem un49 : Try.prog.underlying 49 = some (.complex .f32):=by kernel_rfl
theorem un51 : Try.prog.underlying 51 = some (.float .f32):=by kernel_rfl
theorem wi64_0a0 : IntKind.i64.wrap (0 + 0) = 0:=by decide
theorem wi64_0a1 : IntKind.i64.wrap (0 + 1) = 1:=by decide
theorem wi64_0s0 : IntKind.i64.wrap (0 - 0) = 0:=by decide
theorem wi64_1a1 : IntKind.i64.wrap (1 + 1) = 2:=by decide
theorem wi64_2a1 : IntKind.i64.wrap (2 + 1) = 3:=by decide
theorem wi64_2m1 : IntKind.i64.wrap (2 * 1) = 2:=by decide
theorem wi64_3a1 : IntKind.i64.wrap (3 + 1) = 4:=by decide
theorem zc109 : zeroC Try.prog 109 = some [.int .i64 0,.int .i64 0]:=by kernel_rfl
theorem zc115 : zeroC Try.prog 115 = some [.complex .f32 0 0,.complex .f32 0 0,.complex .f32 0 0,.complex .f32 0 0]:=by kernel_rfl
theorem zc139 : zeroC Try.prog 139 = some [.int .i64 0,.int .i64 0,.int .i64 0,.int .i64 0,.int .i64 0,.int .i64 0,.int .i64 0,.int .i64 0]:=by kernel_rfl
theorem zc24 : zeroC Try.prog 24 = some [.slice none 0 0]:=by kernel_rfl
theorem zc26 : zeroC Try.prog 26 = some [.int .i64 0,.slice none 0 0]:=by kernel_rfl
theorem zc3 : zeroC Try.prog 3 = some [.int .i64 0]:=by kernel_rfl
theorem zc31 : zeroC Try.prog 31 = some [.slice none 0 0]:=by kernel_rfl
theorem zc47 : zeroC Try.prog 47 = some [.int .i64 0,.int .i64 0]:=by kernel_rfl
theorem zc49 : zeroC Try.prog 49 = some [.complex .f32 0 0]:=by kernel_rfl
theorem zc51 : zeroC Try.prog 51 = some [.float .f32 0]:=by kernel_rfl
theorem zc58 : zeroC Try.prog 58 = some [.int .i64 0,.slice none 0 0]:=by kernel_rfl
theorem zc59 : zeroC Try.prog 59 = some [.int .i64 0,.slice none 0 0,.int .i64 0,.slice none 0 0]:=by kernel_rfl
theorem zc80 : zeroC Try.prog 80 = some [.nilFunc]:=by kernel_rfl
theorem zc88 : zeroC Try.prog 88 = some [.int .i64 0,.slice none 0 0]:=by kernel_rfl
theorem zc91 : zeroC Try.prog 91 = some [.nilFunc]:=by kernel_rfl
theorem goFn7 : goFn Try.prog 7 = true:=by kernel_rfl
theorem goFn8 : goFn Try.prog 8 = true:=by kernel_rfl
theorem goFn9 : goFn Try.prog 9 = true:=by kernel_rfl
theorem goFn10 : goFn Try.prog 10 = true:=by kernel_rfl
theorem goFn11 : goFn Try.prog 11 = true:=by kernel_rfl
theorem goFn12 : goFn Try.prog 12 = true:=by kernel_rfl
theorem goFn13 : goFn Try.prog 13 = true:=by kernel_rfl
theorem goFn14 : goFn Try.prog 14 = true:=by kernel_rfl
theorem goFn15 : goFn Try.prog 15 = true:=by kernel_rfl
theorem goFn16 : goFn Try.prog 16 = true:=by kernel_rfl
theorem goFn17 : goFn Try.prog 17 = true:=by kernel_rfl
theorem goFn18 : goFn Try.prog 18 = true:=by kernel_rfl
theorem goFn19 : goFn Try.prog 19 = true:=by kernel_rfl
theorem goFn20 : goFn Try.prog 20 = true:=by kernel_rfl
theorem goFn21 : goFn Try.prog 21 = true:=by kernel_rfl
theorem goFn22 : goFn Try.prog 22 = true:=by kernel_rfl
theorem goFn23 : goFn Try.prog 23 = true:=by kernel_rfl
theorem goFn24 : goFn Try.prog 24 = true:=by kernel_rfl
theorem goFn25 : goFn Try.prog 25 = true:=by kernel_rfl
theorem goFn26 : goFn Try.prog 26 = true:=by kernel_rfl
theorem goFn27 : goFn Try.prog 27 = true:=by kernel_rfl
theorem goFn33 : goFn Try.prog 33 = true:=by kernel_rfl
theorem goFn34 : goFn Try.prog 34 = true:=by kernel_rfl
theorem goFn35 : goFn Try.prog 35 = true:=by kernel_rfl
theorem goFn36 : goFn Try.prog 36 = true:=by kernel_rfl
theorem goFn37 : goFn Try.prog 37 = true:=by kernel_rfl
theorem goFn38 : goFn Try.prog 38 = true:=by kernel_rfl
theorem goFn39 : goFn Try.prog 39 = true:=by kernel_rfl
theorem goFn40 : goFn Try.prog 40 = true:=by kernel_rfl
theorem goFn41 : goFn Try.prog 41 = true:=by kernel_rfl
theorem goFn42 : goFn Try.prog 42 = true:=by kernel_rfl
theorem goFn43 : goFn Try.prog 43 = true:=by kernel_rfl
theorem goFn44 : goFn Try.prog 44 = true:=by kernel_rfl
theorem goFn45 : goFn Try.prog 45 = true:=by kernel_rfl
theorem goFn46 : goFn Try.prog 46 = true:=by kernel_rfl
theorem goFn47 : goFn Try.prog 47 = true:=by kernel_rfl
theorem goFn48 : goFn Try.prog 48 = true:=by kernel_rfl
theorem goFn49 : goFn Try.prog 49 = true:=by kernel_rfl
theorem goFn50 : goFn Try.prog 50 = true:=by kernel_rfl
theorem goFn51 : goFn Try.prog 51 = true:=by kernel_rfl
theorem goFn52 : goFn Try.prog 52 = true:=by kernel_rfl
theorem goFn53 : goFn Try.prog 53 = true:=by kernel_rfl
theorem goFn54 : goFn Try.prog 54 = true:=by kernel_rfl
theorem goFn55 : goFn Try.prog 55 = true:=by kernel_rfl
theorem goFn56 : goFn Try.prog 56 = true:=by kernel_rfl
theorem goFn57 : goFn Try.prog 57 = true:=by kernel_rfl
theorem goFn58 : goFn Try.prog 58 = true:=by kernel_rfl
theorem goFn59 : goFn Try.prog 59 = true:=by kernel_rfl
theorem goFn60 : goFn Try.prog 60 = true:=by kernel_rfl
theorem goFn61 : goFn Try.prog 61 = true:=by kernel_rfl
theorem goFn62 : goFn Try.prog 62 = true:=by kernel_rfl
theorem goFn63 : goFn Try.prog 63 = true:=by kernel_rfl
theorem goFn64 : goFn Try.prog 64 = true:=by kernel_rfl
theorem goFn65 : goFn Try.prog 65 = true:=by kernel_rfl
theorem goFn66 : goFn Try.prog 66 = true:=by kernel_rfl
theorem goFn67 : goFn Try.prog 67 = true:=by kernel_rfl
theorem goFn68 : goFn Try.prog 68 = true:=by kernel_rfl
theorem goFn69 : goFn Try.prog 69 = true:=by kernel_rfl
theorem goFn70 : goFn Try.prog 70 = true:=by kernel_rfl
theorem goFn71 : goFn Try.prog 71 = true:=by kernel_rfl
theorem goFn72 : goFn Try.prog 72 = true:=by kernel_rfl
theorem goFn73 : goFn Try.prog 73 = true:=by kernel_rfl
theorem goFn74 : goFn Try.prog 74 = true:=by kernel_rfl
theorem goFn75 : goFn Try.prog 75 = true:=by kernel_rfl
theorem goFn76 : goFn Try.prog 76 = true:=by kernel_rfl
theorem goFn82 : goFn Try.prog 82 = true:=by kernel_rfl
theorem goFn83 : goFn Try.prog 83 = true:=by kernel_rfl
theorem goFn84 : goFn Try.prog 84 = true:=by kernel_rfl
theorem goFn85 : goFn Try.prog 85 = true:=by kernel_rfl
theorem goFn86 : goFn Try.prog 86 = true:=by kernel_rfl
theorem goFn87 : goFn Try.prog 87 = true:=by kernel_rfl
theorem goFn88 : goFn Try.prog 88 = true:=by kernel_rfl
theorem goFn89 : goFn Try.prog 89 = true:=by kernel_rfl
theorem goFn90 : goFn Try.prog 90 = true:=by kernel_rfl
theorem goFn91 : goFn Try.prog 91 = true:=by kernel_rfl
theorem goFn92 : goFn Try.prog 92 = true:=by kernel_rfl
theorem goFn93 : goFn Try.prog 93 = true:=by kernel_rfl
theorem goFn94 : goFn Try.prog 94 = true:=by kernel_rfl
theorem goFn95 : goFn Try.prog 95 = true:=by kernel_rfl
theorem goFn96 : goFn Try.prog 96 = true:=by kernel_rfl
theorem goFn98 : goFn Try.prog 98 = true:=by kernel_rfl
theorem goFn99 : goFn Try.prog 99 = true:=by kernel_rfl
theorem goFn100 : goFn Try.prog 100 = true:=by kernel_rfl
theorem goFn101 : goFn Try.prog 101 = true:=by kernel_rfl
theorem goFn103 : goFn Try.prog 103 = true:=by kernel_rfl
theorem goFn104 : goFn Try.prog 104 = true:=by kernel_rfl
theorem goFn112 : goFn Try.prog 112 = true:=by kernel_rfl
theorem goFn113 : goFn Try.prog 113 = true:=by kernel_rfl
theorem goFn114 : goFn Try.prog 114 = true:=by kernel_rfl
theorem goFn115 : goFn Try.prog 115 = true:=by kernel_rfl
theorem goFn116 : goFn Try.prog 116 = true:=by kernel_rfl
theorem goFn117 : goFn Try.prog 117 = true:=by kernel_rfl
theorem goFn120 : goFn Try.prog 120 = true:=by kernel_rfl
theorem goFn121 : goFn Try.prog 121 = true:=by kernel_rfl
theorem goFn122 : goFn Try.prog 122 = true:=by kernel_rfl
theorem goFn123 : goFn Try.prog 123 = true:=by kernel_rfl
theorem goFn131 : goFn Try.prog 131 = true:=by kernel_rfl
def zn := And.intro Bool.not_true Bool.not_false
def zp.{u} := @List.getElem?_toArray.{u}
def zs.{u, v} := @Option.bind_some.{u, v}
def zl.{u} := @List.toList_toArray.{u}

end Go.Rex
