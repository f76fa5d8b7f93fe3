/- Facts on types and functions of the program. -/
import Derived.Test.YtneefkifalbplaaS
import Derived.Test.YtneefkifalbplaaRexG11
import Derived.Test.YtneefkifalbplaaProg
set_option linter.unusedSimpArgs false
set_option linter.unusedVariables false
set_option linter.defProp false
namespace Go.Rex
open Go.Proofs
open Go Go.Rex Go.RowKit
set_option maxRecDepth 100000
theorem ag23:rD Try.prog 23=some false:=by kernel_rfl
theorem ag25:rD Try.prog 25=some true:=by kernel_rfl
theorem ag27:rD Try.prog 27=some true:=by kernel_rfl
theorem ag3:rD Try.prog 3=some false:=by kernel_rfl
theorem ag32:rD Try.prog 32=some false:=by kernel_rfl
theorem ag36:rD Try.prog 36=some true:=by kernel_rfl
theorem ag37:rD Try.prog 37=some false:=by kernel_rfl
theorem ag4:rD Try.prog 4=some false:=by kernel_rfl
theorem ag57:rD Try.prog 57=some false:=by kernel_rfl
theorem ag61:rD Try.prog 61=some false:=by kernel_rfl
theorem ag66:rD Try.prog 66=some true:=by kernel_rfl
theorem ag69:rD Try.prog 69=some true:=by kernel_rfl
theorem ag74:rD Try.prog 74=some false:=by kernel_rfl
theorem ag76:rD Try.prog 76=some false:=by kernel_rfl
theorem ag88:rD Try.prog 88=some true:=by kernel_rfl
theorem ag95:rD Try.prog 95=some false:=by kernel_rfl
theorem ar56:sZ Try.prog 56=some (2,3):=by kernel_rfl
theorem aBh:Ts Try.prog 96=true:=by kernel_rfl
theorem by3:nV Try.prog 3=8:=by kernel_rfl
theorem by57:nV Try.prog 57=8:=by kernel_rfl
theorem by88:nV Try.prog 88=16:=by kernel_rfl
theorem cs23:Try.prog.cellsOf 23=1:=by kernel_rfl
theorem cs25:Try.prog.cellsOf 25=2:=by kernel_rfl
theorem cs27:Try.prog.cellsOf 27=3:=by kernel_rfl
theorem cs3:Try.prog.cellsOf 3=1:=by kernel_rfl
theorem cs36:Try.prog.cellsOf 36=3:=by kernel_rfl
theorem cs56:Try.prog.cellsOf 56=2:=by kernel_rfl
theorem cs57:Try.prog.cellsOf 57=1:=by kernel_rfl
theorem cs61:Try.prog.cellsOf 61=1:=by kernel_rfl
theorem cs66:Try.prog.cellsOf 66=3:=by kernel_rfl
theorem cs69:Try.prog.cellsOf 69=2:=by kernel_rfl
theorem cs74:Try.prog.cellsOf 74=1:=by kernel_rfl
theorem cs88:Try.prog.cellsOf 88=2:=by kernel_rfl
theorem ex100:Kh Try.prog 100=some Extern.MathFloatBits.float64frombits:=by kernel_rfl
theorem ex75:Kh Try.prog 75=some Extern.MathFloatBits.float64bits:=by kernel_rfl
theorem ex96 : Kh Try.prog 96 = some (Extern.MathFloor.toIntegral "math.archTrunc" .zero) := by kernel_rfl
theorem tM:mM Try.prog 25 0=some (0,3):=by kernel_rfl
theorem Aq:mM Try.prog 25 1=some (1,23):=by kernel_rfl
theorem Ka:mM Try.prog 27 0=some (0,25):=by kernel_rfl
theorem Pv:mM Try.prog 27 1=some (2,3):=by kernel_rfl
theorem xK:mM Try.prog 36 0=some (0,3):=by kernel_rfl
theorem Eb:mM Try.prog 36 1=some (1,3):=by kernel_rfl
theorem xB:mM Try.prog 36 2=some (2,3):=by kernel_rfl
theorem rL:mM Try.prog 66 0=some (0,36):=by kernel_rfl
theorem Rt:mM Try.prog 69 0=some (0,25):=by kernel_rfl
theorem zT:mM Try.prog 88 0=some (0,3):=by kernel_rfl
theorem Ao:mM Try.prog 88 1=some (1,3):=by kernel_rfl
theorem ni23:nK Try.prog (some 23)=true:=by kernel_rfl
theorem ni32:nK Try.prog (some 32)=true:=by kernel_rfl
theorem ni76:nK Try.prog (some 76)=true:=by kernel_rfl
theorem ok23:okT Try.prog 23=true:=by kernel_rfl
theorem ok25:okT Try.prog 25=true:=by kernel_rfl
theorem ok27:okT Try.prog 27=true:=by kernel_rfl
theorem ok3:okT Try.prog 3=true:=by kernel_rfl
theorem ok36:okT Try.prog 36=true:=by kernel_rfl
theorem ok56:okT Try.prog 56=true:=by kernel_rfl
theorem ok57:okT Try.prog 57=true:=by kernel_rfl
theorem ok61:okT Try.prog 61=true:=by kernel_rfl
theorem ok66:okT Try.prog 66=true:=by kernel_rfl
theorem ok69:okT Try.prog 69=true:=by kernel_rfl
theorem ok74:okT Try.prog 74=true:=by kernel_rfl
theorem ok88:okT Try.prog 88=true:=by kernel_rfl
theorem so22:eT Try.prog 22=some 56:=by kernel_rfl
theorem so23:eT Try.prog 23=some 3:=by kernel_rfl
theorem so32:eT Try.prog 32=some 57:=by kernel_rfl
theorem so56:eT Try.prog 56=none:=by kernel_rfl
theorem so76:eT Try.prog 76=some 88:=by kernel_rfl
theorem so92:eT Try.prog 92=some 61:=by kernel_rfl
theorem st25:tF Try.prog 25=some [(0,1),(1,1)]:=by kernel_rfl
theorem st36:tF Try.prog 36=some [(0,1),(1,1),(2,1)]:=by kernel_rfl
theorem st66:tF Try.prog 66=some [(0,3)]:=by kernel_rfl
theorem st69:tF Try.prog 69=some [(0,2)]:=by kernel_rfl
theorem st88:tF Try.prog 88=some [(0,1),(1,1)]:=by kernel_rfl
theorem un105:Try.prog.underlying 105=some (.float .f64):=by kernel_rfl
theorem un3:Try.prog.underlying 3=some (.int .i64):=by kernel_rfl
theorem un49:Try.prog.underlying 49=some (.float .f32):=by kernel_rfl
theorem un57:Try.prog.underlying 57=some (.complex .f32):=by kernel_rfl
theorem un91:Try.prog.underlying 91=some (.complex .f64):=by kernel_rfl
theorem bF:IntKind.i64.wrap (0+1)=1:=by decide
theorem aAj:IntKind.i64.wrap (0*0)=0:=by decide
theorem kW:IntKind.i64.wrap (1+1)=2:=by decide
theorem qX:IntKind.i64.wrap (2+1)=3:=by decide
theorem Yi:IntKind.i64.wrap (2*0)=0:=by decide
theorem Xe:IntKind.i64.wrap (2*1)=2:=by decide
theorem Zz:IntKind.i64.wrap (2*2)=4:=by decide
theorem xZ:IntKind.i64.wrap (3+1)=4:=by decide
theorem Dg:IntKind.i64.wrap (4+1)=5:=by decide
theorem Mz:IntKind.i64.wrap (5+1)=6:=by decide
theorem zc23:jH Try.prog 23=some [.slice none 0 0]:=by kernel_rfl
theorem zc25:jH Try.prog 25=some [.int .i64 0,.slice none 0 0]:=by kernel_rfl
theorem zc27:jH Try.prog 27=some [.int .i64 0,.slice none 0 0,.int .i64 0]:=by kernel_rfl
theorem zc3:jH Try.prog 3=some [.int .i64 0]:=by kernel_rfl
theorem zc36:jH Try.prog 36=some [.int .i64 0,.int .i64 0,.int .i64 0]:=by kernel_rfl
theorem zc57:jH Try.prog 57=some [.complex .f32 0 0]:=by kernel_rfl
theorem zc61:jH Try.prog 61=some [.nilFunc]:=by kernel_rfl
theorem zc66:jH Try.prog 66=some [.int .i64 0,.int .i64 0,.int .i64 0]:=by kernel_rfl
theorem zc69:jH Try.prog 69=some [.int .i64 0,.slice none 0 0]:=by kernel_rfl
theorem zc74:jH Try.prog 74=some [.nilFunc]:=by kernel_rfl
theorem zc88:jH Try.prog 88=some [.int .i64 0,.int .i64 0]:=by kernel_rfl
theorem aCQ:aT Try.prog 4=true:=by kernel_rfl
theorem aCY:aT Try.prog 5=true:=by kernel_rfl
theorem Zt:aT Try.prog 6=true:=by kernel_rfl
theorem Hg:aT Try.prog 7=true:=by kernel_rfl
theorem aCH:aT Try.prog 8=true:=by kernel_rfl
theorem aC1:aT Try.prog 9=true:=by kernel_rfl
theorem aBS:aT Try.prog 10=true:=by kernel_rfl
theorem Qe:aT Try.prog 11=true:=by kernel_rfl
theorem Ki:aT Try.prog 12=true:=by kernel_rfl
theorem aCj:aT Try.prog 13=true:=by kernel_rfl
theorem aB2:aT Try.prog 14=true:=by kernel_rfl
theorem Yj:aT Try.prog 15=true:=by kernel_rfl
theorem Qj:aT Try.prog 16=true:=by kernel_rfl
theorem aBn:aT Try.prog 19=true:=by kernel_rfl
theorem aBt:aT Try.prog 20=true:=by kernel_rfl
theorem aB4:aT Try.prog 21=true:=by kernel_rfl
theorem nZ:aT Try.prog 22=true:=by kernel_rfl
theorem vG:aT Try.prog 23=true:=by kernel_rfl
theorem Qf:aT Try.prog 24=true:=by kernel_rfl
theorem Yp:aT Try.prog 25=true:=by kernel_rfl
theorem aCG:aT Try.prog 26=true:=by kernel_rfl
theorem Pi:aT Try.prog 27=true:=by kernel_rfl
theorem Rn:aT Try.prog 28=true:=by kernel_rfl
theorem Rf:aT Try.prog 29=true:=by kernel_rfl
theorem aAm:aT Try.prog 30=true:=by kernel_rfl
theorem aB0:aT Try.prog 31=true:=by kernel_rfl
theorem gQ:aT Try.prog 32=true:=by kernel_rfl
theorem vM:aT Try.prog 33=true:=by kernel_rfl
theorem Wg:aT Try.prog 34=true:=by kernel_rfl
theorem Wo:aT Try.prog 35=true:=by kernel_rfl
theorem Rs:aT Try.prog 36=true:=by kernel_rfl
theorem aBq:aT Try.prog 37=true:=by kernel_rfl
theorem aB8:aT Try.prog 38=true:=by kernel_rfl
theorem Hv:aT Try.prog 39=true:=by kernel_rfl
theorem aBC:aT Try.prog 40=true:=by kernel_rfl
theorem aCr:aT Try.prog 41=true:=by kernel_rfl
theorem aBz:aT Try.prog 42=true:=by kernel_rfl
theorem Qh:aT Try.prog 43=true:=by kernel_rfl
theorem aAr:aT Try.prog 44=true:=by kernel_rfl
theorem aCk:aT Try.prog 45=true:=by kernel_rfl
theorem Yu:aT Try.prog 46=true:=by kernel_rfl
theorem aCt:aT Try.prog 47=true:=by kernel_rfl
theorem aCd:aT Try.prog 48=true:=by kernel_rfl
theorem aBA:aT Try.prog 49=true:=by kernel_rfl
theorem aCv:aT Try.prog 50=true:=by kernel_rfl
theorem aBu:aT Try.prog 51=true:=by kernel_rfl
theorem Wy:aT Try.prog 52=true:=by kernel_rfl
theorem Wa:aT Try.prog 53=true:=by kernel_rfl
theorem Qk:aT Try.prog 54=true:=by kernel_rfl
theorem Rl:aT Try.prog 55=true:=by kernel_rfl
theorem aBN:aT Try.prog 56=true:=by kernel_rfl
theorem aBX:aT Try.prog 57=true:=by kernel_rfl
theorem aCh:aT Try.prog 58=true:=by kernel_rfl
theorem Pf:aT Try.prog 59=true:=by kernel_rfl
theorem aCg:aT Try.prog 60=true:=by kernel_rfl
theorem jT:aT Try.prog 61=true:=by kernel_rfl
theorem Yl:aT Try.prog 62=true:=by kernel_rfl
theorem Px:aT Try.prog 63=true:=by kernel_rfl
theorem Ys:aT Try.prog 64=true:=by kernel_rfl
theorem aBm:aT Try.prog 65=true:=by kernel_rfl
theorem aCA:aT Try.prog 66=true:=by kernel_rfl
theorem aB5:aT Try.prog 67=true:=by kernel_rfl
theorem aCD:aT Try.prog 68=true:=by kernel_rfl
theorem aBr:aT Try.prog 69=true:=by kernel_rfl
theorem uQ:aT Try.prog 70=true:=by kernel_rfl
theorem aBE:aT Try.prog 71=true:=by kernel_rfl
theorem aCC:aT Try.prog 72=true:=by kernel_rfl
theorem aCo:aT Try.prog 73=true:=by kernel_rfl
theorem aCc:aT Try.prog 74=true:=by kernel_rfl
theorem aAp:aT Try.prog 76=true:=by kernel_rfl
theorem Qr:aT Try.prog 77=true:=by kernel_rfl
theorem Yx:aT Try.prog 78=true:=by kernel_rfl
theorem Kn:aT Try.prog 79=true:=by kernel_rfl
theorem aBR:aT Try.prog 80=true:=by kernel_rfl
theorem aCw:aT Try.prog 81=true:=by kernel_rfl
theorem aCy:aT Try.prog 82=true:=by kernel_rfl
theorem Zc:aT Try.prog 83=true:=by kernel_rfl
theorem aBV:aT Try.prog 84=true:=by kernel_rfl
theorem aCe:aT Try.prog 85=true:=by kernel_rfl
theorem aBH:aT Try.prog 86=true:=by kernel_rfl
theorem Xj:aT Try.prog 87=true:=by kernel_rfl
theorem Qx:aT Try.prog 88=true:=by kernel_rfl
theorem aBp:aT Try.prog 89=true:=by kernel_rfl
theorem aB6:aT Try.prog 90=true:=by kernel_rfl
theorem aBT:aT Try.prog 91=true:=by kernel_rfl
theorem aBL:aT Try.prog 92=true:=by kernel_rfl
theorem aCp:aT Try.prog 93=true:=by kernel_rfl
theorem aAh:aT Try.prog 94=true:=by kernel_rfl
theorem Xw:aT Try.prog 95=true:=by kernel_rfl
theorem aCn:aT Try.prog 98=true:=by kernel_rfl
def zn:=And.intro Bool.not_true Bool.not_false
def zp.{u}:=@List.getElem?_toArray.{u}
def zs.{u,v}:=@Option.bind_some.{u,v}
def zl.{u}:=@List.toList_toArray.{u}
end Go.Rex
