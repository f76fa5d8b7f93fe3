/- Facts on types and functions of the program. -/
import Derived.Test.YtbodidihhbejmaaS
import Derived.Test.YtbodidihhbejmaaRexG10
import Derived.Test.YtbodidihhbejmaaProg
set_option linter.unusedSimpArgs false
set_option linter.unusedVariables false
set_option linter.defProp false
namespace Go.Rex
open Go.Proofs
open Go Go.Rex Go.RowKit
set_option maxRecDepth 100000
theorem ag109:iB Try.prog 109=some true:=by kernel_rfl
theorem ag118:iB Try.prog 118=some false:=by kernel_rfl
theorem ag23:iB Try.prog 23=some false:=by kernel_rfl
theorem ag24:iB Try.prog 24=some false:=by kernel_rfl
theorem ag26:iB Try.prog 26=some true:=by kernel_rfl
theorem ag3:iB Try.prog 3=some false:=by kernel_rfl
theorem ag31:iB Try.prog 31=some false:=by kernel_rfl
theorem ag32:iB Try.prog 32=some false:=by kernel_rfl
theorem ag4:iB Try.prog 4=some false:=by kernel_rfl
theorem ag47:iB Try.prog 47=some true:=by kernel_rfl
theorem ag49:iB Try.prog 49=some false:=by kernel_rfl
theorem ag51:iB Try.prog 51=some false:=by kernel_rfl
theorem ag55:iB Try.prog 55=some false:=by kernel_rfl
theorem ag56:iB Try.prog 56=some false:=by kernel_rfl
theorem ag58:iB Try.prog 58=some true:=by kernel_rfl
theorem ag59:iB Try.prog 59=some true:=by kernel_rfl
theorem ag80:iB Try.prog 80=some false:=by kernel_rfl
theorem ag84:iB Try.prog 84=some false:=by kernel_rfl
theorem ag88:iB Try.prog 88=some true:=by kernel_rfl
theorem ag91:iB Try.prog 91=some false:=by kernel_rfl
theorem ar115:gQ Try.prog 115=some (4,49):=by kernel_rfl
theorem ar139:gQ Try.prog 139=some (4,47):=by kernel_rfl
theorem ar47:gQ Try.prog 47=some (2,3):=by kernel_rfl
theorem ar59:gQ Try.prog 59=some (2,58):=by kernel_rfl
theorem ar71:gQ Try.prog 71=some (2,51):=by kernel_rfl
theorem Hz:Du Try.prog 129=true:=by kernel_rfl
theorem by109:fT Try.prog 109=16:=by kernel_rfl
theorem by3:fT Try.prog 3=8:=by kernel_rfl
theorem by31:fT Try.prog 31=24:=by kernel_rfl
theorem by47:fT Try.prog 47=16:=by kernel_rfl
theorem by49:fT Try.prog 49=8:=by kernel_rfl
theorem by51:fT Try.prog 51=4:=by kernel_rfl
theorem cs109:Try.prog.cellsOf 109=2:=by kernel_rfl
theorem cs115:Try.prog.cellsOf 115=4:=by kernel_rfl
theorem cs23:Try.prog.cellsOf 23=1:=by kernel_rfl
theorem cs24:Try.prog.cellsOf 24=1:=by kernel_rfl
theorem cs26:Try.prog.cellsOf 26=2:=by kernel_rfl
theorem cs3:Try.prog.cellsOf 3=1:=by kernel_rfl
theorem cs31:Try.prog.cellsOf 31=1:=by kernel_rfl
theorem cs47:Try.prog.cellsOf 47=2:=by kernel_rfl
theorem cs49:Try.prog.cellsOf 49=1:=by kernel_rfl
theorem cs51:Try.prog.cellsOf 51=1:=by kernel_rfl
theorem cs56:Try.prog.cellsOf 56=1:=by kernel_rfl
theorem cs58:Try.prog.cellsOf 58=2:=by kernel_rfl
theorem cs59:Try.prog.cellsOf 59=4:=by kernel_rfl
theorem cs71:Try.prog.cellsOf 71=2:=by kernel_rfl
theorem cs80:Try.prog.cellsOf 80=1:=by kernel_rfl
theorem cs88:Try.prog.cellsOf 88=2:=by kernel_rfl
theorem cs91:Try.prog.cellsOf 91=1:=by kernel_rfl
theorem eqg109:Program.eqGuardType Try.prog Try.prog.depth 109=false:=by kernel_rfl
theorem eqg47:Program.eqGuardType Try.prog Try.prog.depth 47=false:=by kernel_rfl
theorem eqs109{a0 a1 b0 b1:Int}:prun Try.prog (Op.equal 109 (.agg ⟨[.int .i64 a0,.int .i64 a1]⟩) (.agg ⟨[.int .i64 b0,.int .i64 b1]⟩))=some ([a0==b0,a1==b1].all id):=Hf (Fa Try.underlying109 (by kernel_rfl) (EqF.cons (by decide) (gW (by kernel_rfl) rfl) (gW (by kernel_rfl) rfl) (yT (by kernel_rfl)) (EqF.cons (by decide) (gW (by kernel_rfl) rfl) (gW (by kernel_rfl) rfl) (yT (by kernel_rfl)) EqF.nil)))
theorem eqs47{a0 a1 b0 b1:Int}:prun Try.prog (Op.equal 47 (.agg ⟨[.int .i64 a0,.int .i64 a1]⟩) (.agg ⟨[.int .i64 b0,.int .i64 b1]⟩))=some ([a0==b0,a1==b1].all id):=Hf (Kb (n:=1) Try.underlying47 (by kernel_rfl) (EqI.cons (gW (by kernel_rfl) rfl) (gW (by kernel_rfl) rfl) (yT (by kernel_rfl)) (EqI.cons (gW (by kernel_rfl) rfl) (gW (by kernel_rfl) rfl) (yT (by kernel_rfl)) (EqI.nil _))) rfl)
theorem ex102:tG Try.prog 102=some Extern.MathFloatBits.float32bits:=by kernel_rfl
theorem ex129 : tG Try.prog 129 = some (Extern.MathFloor.toIntegral "math.archTrunc" .zero) := by kernel_rfl
theorem ex133:tG Try.prog 133=some Extern.MathFloatBits.float64frombits:=by kernel_rfl
theorem ex97:tG Try.prog 97=some Extern.MathFloatBits.float64bits:=by kernel_rfl
theorem qL:iR Try.prog 109 0=some (0,3):=by kernel_rfl
theorem qV:iR Try.prog 109 1=some (1,3):=by kernel_rfl
theorem Rj:iR Try.prog 26 0=some (0,3):=by kernel_rfl
theorem Rd:iR Try.prog 26 1=some (1,24):=by kernel_rfl
theorem Rk:iR Try.prog 28 0=some (0,26):=by kernel_rfl
theorem Qk:iR Try.prog 28 1=some (2,3):=by kernel_rfl
theorem Hi:iR Try.prog 58 0=some (0,3):=by kernel_rfl
theorem Cy:iR Try.prog 58 1=some (1,56):=by kernel_rfl
theorem Ql:iR Try.prog 88 0=some (0,26):=by kernel_rfl
theorem ni24:fU Try.prog (some 24)=true:=by kernel_rfl
theorem ni31:fU Try.prog (some 31)=true:=by kernel_rfl
theorem ni46:fU Try.prog (some 46)=true:=by kernel_rfl
theorem ni55:fU Try.prog (some 55)=true:=by kernel_rfl
theorem ni56:fU Try.prog (some 56)=true:=by kernel_rfl
theorem ni84:fU Try.prog (some 84)=true:=by kernel_rfl
theorem ok109:okT Try.prog 109=true:=by kernel_rfl
theorem ok115:okT Try.prog 115=true:=by kernel_rfl
theorem ok23:okT Try.prog 23=true:=by kernel_rfl
theorem ok24:okT Try.prog 24=true:=by kernel_rfl
theorem ok26:okT Try.prog 26=true:=by kernel_rfl
theorem ok3:okT Try.prog 3=true:=by kernel_rfl
theorem ok31:okT Try.prog 31=true:=by kernel_rfl
theorem ok47:okT Try.prog 47=true:=by kernel_rfl
theorem ok49:okT Try.prog 49=true:=by kernel_rfl
theorem ok51:okT Try.prog 51=true:=by kernel_rfl
theorem ok56:okT Try.prog 56=true:=by kernel_rfl
theorem ok58:okT Try.prog 58=true:=by kernel_rfl
theorem ok59:okT Try.prog 59=true:=by kernel_rfl
theorem ok71:okT Try.prog 71=true:=by kernel_rfl
theorem ok80:okT Try.prog 80=true:=by kernel_rfl
theorem ok88:okT Try.prog 88=true:=by kernel_rfl
theorem ok91:okT Try.prog 91=true:=by kernel_rfl
theorem so115:aZ Try.prog 115=none:=by kernel_rfl
theorem so128:aZ Try.prog 128=some 80:=by kernel_rfl
theorem so139:aZ Try.prog 139=none:=by kernel_rfl
theorem so23:aZ Try.prog 23=some 71:=by kernel_rfl
theorem so24:aZ Try.prog 24=some 3:=by kernel_rfl
theorem so31:aZ Try.prog 31=some 49:=by kernel_rfl
theorem so46:aZ Try.prog 46=some 47:=by kernel_rfl
theorem so47:aZ Try.prog 47=none:=by kernel_rfl
theorem so54:aZ Try.prog 54=some 23:=by kernel_rfl
theorem so55:aZ Try.prog 55=some 31:=by kernel_rfl
theorem so56:aZ Try.prog 56=some 51:=by kernel_rfl
theorem so59:aZ Try.prog 59=none:=by kernel_rfl
theorem so71:aZ Try.prog 71=none:=by kernel_rfl
theorem so84:aZ Try.prog 84=some 109:=by kernel_rfl
theorem st109:iW Try.prog 109=some [(0,1),(1,1)]:=by kernel_rfl
theorem st115:iW Try.prog 115=none:=by kernel_rfl
theorem st139:iW Try.prog 139=none:=by kernel_rfl
theorem st26:iW Try.prog 26=some [(0,1),(1,1)]:=by kernel_rfl
theorem st47:iW Try.prog 47=none:=by kernel_rfl
theorem st58:iW Try.prog 58=some [(0,1),(1,1)]:=by kernel_rfl
theorem st59:iW Try.prog 59=none:=by kernel_rfl
theorem st88:iW Try.prog 88=some [(0,2)]:=by kernel_rfl
theorem un105:Try.prog.underlying 105=some (.complex .f64):=by kernel_rfl
theorem un132:Try.prog.underlying 132=some (.float .f64):=by kernel_rfl
theorem un3:Try.prog.underlying 3=some (.int .i64):=by kernel_rfl
theorem un49:Try.prog.underlying 49=some (.complex .f32):=by kernel_rfl
theorem un51:Try.prog.underlying 51=some (.float .f32):=by kernel_rfl
theorem Pe:IntKind.i64.wrap (0+0)=0:=by decide
theorem bH:IntKind.i64.wrap (0+1)=1:=by decide
theorem Pb:IntKind.i64.wrap (0-0)=0:=by decide
theorem lX:IntKind.i64.wrap (1+1)=2:=by decide
theorem uT:IntKind.i64.wrap (2+1)=3:=by decide
theorem Pd:IntKind.i64.wrap (2*1)=2:=by decide
theorem Pg:IntKind.i64.wrap (3+1)=4:=by decide
theorem zc109:dX Try.prog 109=some [.int .i64 0,.int .i64 0]:=by kernel_rfl
theorem zc115:dX Try.prog 115=some [.complex .f32 0 0,.complex .f32 0 0,.complex .f32 0 0,.complex .f32 0 0]:=by kernel_rfl
theorem zc139:dX Try.prog 139=some [.int .i64 0,.int .i64 0,.int .i64 0,.int .i64 0,.int .i64 0,.int .i64 0,.int .i64 0,.int .i64 0]:=by kernel_rfl
theorem zc24:dX Try.prog 24=some [.slice none 0 0]:=by kernel_rfl
theorem zc26:dX Try.prog 26=some [.int .i64 0,.slice none 0 0]:=by kernel_rfl
theorem zc3:dX Try.prog 3=some [.int .i64 0]:=by kernel_rfl
theorem zc31:dX Try.prog 31=some [.slice none 0 0]:=by kernel_rfl
theorem zc47:dX Try.prog 47=some [.int .i64 0,.int .i64 0]:=by kernel_rfl
theorem zc49:dX Try.prog 49=some [.complex .f32 0 0]:=by kernel_rfl
theorem zc51:dX Try.prog 51=some [.float .f32 0]:=by kernel_rfl
theorem zc58:dX Try.prog 58=some [.int .i64 0,.slice none 0 0]:=by kernel_rfl
theorem zc59:dX Try.prog 59=some [.int .i64 0,.slice none 0 0,.int .i64 0,.slice none 0 0]:=by kernel_rfl
theorem zc80:dX Try.prog 80=some [.nilFunc]:=by kernel_rfl
theorem zc88:dX Try.prog 88=some [.int .i64 0,.slice none 0 0]:=by kernel_rfl
theorem zc91:dX Try.prog 91=some [.nilFunc]:=by kernel_rfl
theorem Pk:aJ Try.prog 7=true:=by kernel_rfl
theorem Mb:aJ Try.prog 8=true:=by kernel_rfl
theorem Rr:aJ Try.prog 9=true:=by kernel_rfl
theorem rU:aJ Try.prog 10=true:=by kernel_rfl
theorem Qm:aJ Try.prog 11=true:=by kernel_rfl
theorem Rh:aJ Try.prog 12=true:=by kernel_rfl
theorem Qx:aJ Try.prog 13=true:=by kernel_rfl
theorem Qr:aJ Try.prog 14=true:=by kernel_rfl
theorem Hr:aJ Try.prog 15=true:=by kernel_rfl
theorem Ro:aJ Try.prog 16=true:=by kernel_rfl
theorem Qf:aJ Try.prog 17=true:=by kernel_rfl
theorem Rl:aJ Try.prog 18=true:=by kernel_rfl
theorem Qb:aJ Try.prog 19=true:=by kernel_rfl
theorem Gi:aJ Try.prog 20=true:=by kernel_rfl
theorem Qv:aJ Try.prog 21=true:=by kernel_rfl
theorem Rn:aJ Try.prog 22=true:=by kernel_rfl
theorem Jq:aJ Try.prog 23=true:=by kernel_rfl
theorem Hn:aJ Try.prog 24=true:=by kernel_rfl
theorem zL:aJ Try.prog 25=true:=by kernel_rfl
theorem Jf:aJ Try.prog 26=true:=by kernel_rfl
theorem Gu:aJ Try.prog 27=true:=by kernel_rfl
theorem nU:aJ Try.prog 33=true:=by kernel_rfl
theorem Ge:aJ Try.prog 34=true:=by kernel_rfl
theorem Mh:aJ Try.prog 35=true:=by kernel_rfl
theorem Nb:aJ Try.prog 36=true:=by kernel_rfl
theorem Pz:aJ Try.prog 37=true:=by kernel_rfl
theorem My:aJ Try.prog 38=true:=by kernel_rfl
theorem Pt:aJ Try.prog 39=true:=by kernel_rfl
theorem Ri:aJ Try.prog 40=true:=by kernel_rfl
theorem Qi:aJ Try.prog 41=true:=by kernel_rfl
theorem Qh:aJ Try.prog 42=true:=by kernel_rfl
theorem Re:aJ Try.prog 43=true:=by kernel_rfl
theorem Rf:aJ Try.prog 44=true:=by kernel_rfl
theorem Pv:aJ Try.prog 45=true:=by kernel_rfl
theorem Jv:aJ Try.prog 46=true:=by kernel_rfl
theorem Mo:aJ Try.prog 47=true:=by kernel_rfl
theorem Qw:aJ Try.prog 48=true:=by kernel_rfl
theorem Hd:aJ Try.prog 49=true:=by kernel_rfl
theorem Pw:aJ Try.prog 50=true:=by kernel_rfl
theorem Qj:aJ Try.prog 51=true:=by kernel_rfl
theorem Qo:aJ Try.prog 52=true:=by kernel_rfl
theorem Pu:aJ Try.prog 53=true:=by kernel_rfl
theorem Mp:aJ Try.prog 54=true:=by kernel_rfl
theorem gT:aJ Try.prog 55=true:=by kernel_rfl
theorem Qq:aJ Try.prog 56=true:=by kernel_rfl
theorem Px:aJ Try.prog 57=true:=by kernel_rfl
theorem Qg:aJ Try.prog 58=true:=by kernel_rfl
theorem Qy:aJ Try.prog 59=true:=by kernel_rfl
theorem Qz:aJ Try.prog 60=true:=by kernel_rfl
theorem Qu:aJ Try.prog 61=true:=by kernel_rfl
theorem Qc:aJ Try.prog 62=true:=by kernel_rfl
theorem Qp:aJ Try.prog 63=true:=by kernel_rfl
theorem Gq:aJ Try.prog 64=true:=by kernel_rfl
theorem zU:aJ Try.prog 65=true:=by kernel_rfl
theorem Np:aJ Try.prog 66=true:=by kernel_rfl
theorem Da:aJ Try.prog 67=true:=by kernel_rfl
theorem Jp:aJ Try.prog 68=true:=by kernel_rfl
theorem Jj:aJ Try.prog 69=true:=by kernel_rfl
theorem Jm:aJ Try.prog 70=true:=by kernel_rfl
theorem Mr:aJ Try.prog 71=true:=by kernel_rfl
theorem Nr:aJ Try.prog 72=true:=by kernel_rfl
theorem Nv:aJ Try.prog 73=true:=by kernel_rfl
theorem Gr:aJ Try.prog 74=true:=by kernel_rfl
theorem He:aJ Try.prog 75=true:=by kernel_rfl
theorem Qe:aJ Try.prog 76=true:=by kernel_rfl
theorem Kc:aJ Try.prog 82=true:=by kernel_rfl
theorem Ng:aJ Try.prog 83=true:=by kernel_rfl
theorem Nm:aJ Try.prog 84=true:=by kernel_rfl
theorem Mj:aJ Try.prog 85=true:=by kernel_rfl
theorem Qd:aJ Try.prog 86=true:=by kernel_rfl
theorem Qs:aJ Try.prog 87=true:=by kernel_rfl
theorem Rq:aJ Try.prog 88=true:=by kernel_rfl
theorem Rg:aJ Try.prog 89=true:=by kernel_rfl
theorem Mz:aJ Try.prog 90=true:=by kernel_rfl
theorem Py:aJ Try.prog 91=true:=by kernel_rfl
theorem Je:aJ Try.prog 92=true:=by kernel_rfl
theorem Nh:aJ Try.prog 93=true:=by kernel_rfl
theorem Rm:aJ Try.prog 94=true:=by kernel_rfl
theorem Ra:aJ Try.prog 95=true:=by kernel_rfl
theorem Qn:aJ Try.prog 96=true:=by kernel_rfl
theorem kV:aJ Try.prog 98=true:=by kernel_rfl
theorem Rb:aJ Try.prog 99=true:=by kernel_rfl
theorem tR:aJ Try.prog 100=true:=by kernel_rfl
theorem En:aJ Try.prog 101=true:=by kernel_rfl
theorem Lr:aJ Try.prog 103=true:=by kernel_rfl
theorem Pm:aJ Try.prog 104=true:=by kernel_rfl
theorem Eu:aJ Try.prog 112=true:=by kernel_rfl
theorem tW:aJ Try.prog 113=true:=by kernel_rfl
theorem Pn:aJ Try.prog 114=true:=by kernel_rfl
theorem Pq:aJ Try.prog 115=true:=by kernel_rfl
theorem Pp:aJ Try.prog 116=true:=by kernel_rfl
theorem Pr:aJ Try.prog 117=true:=by kernel_rfl
theorem Lt:aJ Try.prog 120=true:=by kernel_rfl
theorem Lw:aJ Try.prog 121=true:=by kernel_rfl
theorem Po:aJ Try.prog 122=true:=by kernel_rfl
theorem Ps:aJ Try.prog 123=true:=by kernel_rfl
theorem Lq:aJ Try.prog 131=true:=by kernel_rfl
def zn:=And.intro Bool.not_true Bool.not_false
def zp.{u}:=@List.getElem?_toArray.{u}
def zs.{u,v}:=@Option.bind_some.{u,v}
def zl.{u}:=@List.toList_toArray.{u}
end Go.Rex
