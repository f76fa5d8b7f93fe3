/- Facts on types and functions of the program. -/
import Derived.Test.YtbodidihhbejmaaGreatS
import Derived.Test.YtbodidihhbejmaaGreatRexG11
import Derived.Test.YtbodidihhbejmaaGreatProg
set_option linter.unusedSimpArgs false
set_option linter.unusedVariables false
set_option linter.defProp false
namespace Go.Rex
open Go.Proofs
open Go Go.Rex Go.RowKit
set_option maxRecDepth 100000
theorem ag101:mX Tryz.prog 101=some true:=by kernel_rfl
theorem ag108:mX Tryz.prog 108=some true:=by kernel_rfl
theorem ag117:mX Tryz.prog 117=some false:=by kernel_rfl
theorem ag24:mX Tryz.prog 24=some false:=by kernel_rfl
theorem ag26:mX Tryz.prog 26=some true:=by kernel_rfl
theorem ag28:mX Tryz.prog 28=some true:=by kernel_rfl
theorem ag3:mX Tryz.prog 3=some false:=by kernel_rfl
theorem ag31:mX Tryz.prog 31=some false:=by kernel_rfl
theorem ag32:mX Tryz.prog 32=some false:=by kernel_rfl
theorem ag4:mX Tryz.prog 4=some false:=by kernel_rfl
theorem ag44:mX Tryz.prog 44=some false:=by kernel_rfl
theorem ag50:mX Tryz.prog 50=some true:=by kernel_rfl
theorem ag67:mX Tryz.prog 67=some true:=by kernel_rfl
theorem ag70:mX Tryz.prog 70=some false:=by kernel_rfl
theorem ag75:mX Tryz.prog 75=some false:=by kernel_rfl
theorem ag77:mX Tryz.prog 77=some false:=by kernel_rfl
theorem ag84:mX Tryz.prog 84=some false:=by kernel_rfl
theorem ag88:mX Tryz.prog 88=some true:=by kernel_rfl
theorem ar45:oB Tryz.prog 45=some (2,44):=by kernel_rfl
theorem ar88:oB Tryz.prog 88=some (2,3):=by kernel_rfl
theorem Sc:Mf Tryz.prog 130=true:=by kernel_rfl
theorem by108:jY Tryz.prog 108=16:=by kernel_rfl
theorem by3:jY Tryz.prog 3=8:=by kernel_rfl
theorem by84:jY Tryz.prog 84=8:=by kernel_rfl
theorem by88:jY Tryz.prog 88=16:=by kernel_rfl
theorem cs101:Tryz.prog.cellsOf 101=3:=by kernel_rfl
theorem cs108:Tryz.prog.cellsOf 108=2:=by kernel_rfl
theorem cs24:Tryz.prog.cellsOf 24=1:=by kernel_rfl
theorem cs26:Tryz.prog.cellsOf 26=2:=by kernel_rfl
theorem cs28:Tryz.prog.cellsOf 28=3:=by kernel_rfl
theorem cs3:Tryz.prog.cellsOf 3=1:=by kernel_rfl
theorem cs44:Tryz.prog.cellsOf 44=1:=by kernel_rfl
theorem cs45:Tryz.prog.cellsOf 45=2:=by kernel_rfl
theorem cs50:Tryz.prog.cellsOf 50=3:=by kernel_rfl
theorem cs67:Tryz.prog.cellsOf 67=2:=by kernel_rfl
theorem cs70:Tryz.prog.cellsOf 70=1:=by kernel_rfl
theorem cs75:Tryz.prog.cellsOf 75=1:=by kernel_rfl
theorem cs84:Tryz.prog.cellsOf 84=1:=by kernel_rfl
theorem cs88:Tryz.prog.cellsOf 88=2:=by kernel_rfl
theorem ex130 : Eu Tryz.prog 130 = some (Extern.MathFloor.toIntegral "math.archTrunc" .zero) := by kernel_rfl
theorem ex134:Eu Tryz.prog 134=some Extern.MathFloatBits.float64frombits:=by kernel_rfl
theorem ex94:Eu Tryz.prog 94=some Extern.MathFloatBits.float64bits:=by kernel_rfl
theorem Yq:kA Tryz.prog 101 0=some (0,50):=by kernel_rfl
theorem uF:kA Tryz.prog 108 0=some (0,3):=by kernel_rfl
theorem uP:kA Tryz.prog 108 1=some (1,3):=by kernel_rfl
theorem rE:kA Tryz.prog 26 0=some (0,3):=by kernel_rfl
theorem xE:kA Tryz.prog 26 1=some (1,24):=by kernel_rfl
theorem Wf:kA Tryz.prog 28 0=some (0,26):=by kernel_rfl
theorem Wb:kA Tryz.prog 28 1=some (2,3):=by kernel_rfl
theorem Zh:kA Tryz.prog 50 0=some (0,3):=by kernel_rfl
theorem Za:kA Tryz.prog 50 1=some (1,3):=by kernel_rfl
theorem Zn:kA Tryz.prog 50 2=some (2,3):=by kernel_rfl
theorem Ku:kA Tryz.prog 67 0=some (0,26):=by kernel_rfl
theorem ni24:jX Tryz.prog (some 24)=true:=by kernel_rfl
theorem ni31:jX Tryz.prog (some 31)=true:=by kernel_rfl
theorem ni77:jX Tryz.prog (some 77)=true:=by kernel_rfl
theorem ni86:jX Tryz.prog (some 86)=true:=by kernel_rfl
theorem ok101:okT Tryz.prog 101=true:=by kernel_rfl
theorem ok108:okT Tryz.prog 108=true:=by kernel_rfl
theorem ok24:okT Tryz.prog 24=true:=by kernel_rfl
theorem ok26:okT Tryz.prog 26=true:=by kernel_rfl
theorem ok28:okT Tryz.prog 28=true:=by kernel_rfl
theorem ok3:okT Tryz.prog 3=true:=by kernel_rfl
theorem ok44:okT Tryz.prog 44=true:=by kernel_rfl
theorem ok45:okT Tryz.prog 45=true:=by kernel_rfl
theorem ok50:okT Tryz.prog 50=true:=by kernel_rfl
theorem ok67:okT Tryz.prog 67=true:=by kernel_rfl
theorem ok70:okT Tryz.prog 70=true:=by kernel_rfl
theorem ok75:okT Tryz.prog 75=true:=by kernel_rfl
theorem ok84:okT Tryz.prog 84=true:=by kernel_rfl
theorem ok88:okT Tryz.prog 88=true:=by kernel_rfl
theorem so114:dE Tryz.prog 114=some 70:=by kernel_rfl
theorem so23:dE Tryz.prog 23=some 45:=by kernel_rfl
theorem so24:dE Tryz.prog 24=some 3:=by kernel_rfl
theorem so31:dE Tryz.prog 31=some 84:=by kernel_rfl
theorem so45:dE Tryz.prog 45=none:=by kernel_rfl
theorem so77:dE Tryz.prog 77=some 108:=by kernel_rfl
theorem so86:dE Tryz.prog 86=some 88:=by kernel_rfl
theorem so88:dE Tryz.prog 88=none:=by kernel_rfl
theorem st101:oD Tryz.prog 101=some [(0,3)]:=by kernel_rfl
theorem st108:oD Tryz.prog 108=some [(0,1),(1,1)]:=by kernel_rfl
theorem st26:oD Tryz.prog 26=some [(0,1),(1,1)]:=by kernel_rfl
theorem st50:oD Tryz.prog 50=some [(0,1),(1,1),(2,1)]:=by kernel_rfl
theorem st67:oD Tryz.prog 67=some [(0,2)]:=by kernel_rfl
theorem st88:oD Tryz.prog 88=none:=by kernel_rfl
theorem un3:Tryz.prog.underlying 3=some (.int .i64):=by kernel_rfl
theorem un44:Tryz.prog.underlying 44=some (.float .f32):=by kernel_rfl
theorem un84:Tryz.prog.underlying 84=some (.complex .f32):=by kernel_rfl
theorem un94:Tryz.prog.underlying 94=some (.complex .f64):=by kernel_rfl
theorem un95:Tryz.prog.underlying 95=some (.float .f64):=by kernel_rfl
theorem bM:IntKind.i64.wrap (0+1)=1:=by decide
theorem Xl:IntKind.i64.wrap (0*0)=0:=by decide
theorem Rm:IntKind.i64.wrap (0-0)=0:=by decide
theorem nD:IntKind.i64.wrap (1+1)=2:=by decide
theorem Ap:IntKind.i64.wrap (2+1)=3:=by decide
theorem Rb:IntKind.i64.wrap (2*0)=0:=by decide
theorem Rf:IntKind.i64.wrap (2*1)=2:=by decide
theorem Xz:IntKind.i64.wrap (2*2)=4:=by decide
theorem Hx:IntKind.i64.wrap (3+1)=4:=by decide
theorem Sk:IntKind.i64.wrap (4+1)=5:=by decide
theorem Yc:IntKind.i64.wrap (5+1)=6:=by decide
theorem zc101:gH Tryz.prog 101=some [.int .i64 0,.int .i64 0,.int .i64 0]:=by kernel_rfl
theorem zc108:gH Tryz.prog 108=some [.int .i64 0,.int .i64 0]:=by kernel_rfl
theorem zc24:gH Tryz.prog 24=some [.slice none 0 0]:=by kernel_rfl
theorem zc26:gH Tryz.prog 26=some [.int .i64 0,.slice none 0 0]:=by kernel_rfl
theorem zc28:gH Tryz.prog 28=some [.int .i64 0,.slice none 0 0,.int .i64 0]:=by kernel_rfl
theorem zc3:gH Tryz.prog 3=some [.int .i64 0]:=by kernel_rfl
theorem zc50:gH Tryz.prog 50=some [.int .i64 0,.int .i64 0,.int .i64 0]:=by kernel_rfl
theorem zc67:gH Tryz.prog 67=some [.int .i64 0,.slice none 0 0]:=by kernel_rfl
theorem zc70:gH Tryz.prog 70=some [.nilFunc]:=by kernel_rfl
theorem zc75:gH Tryz.prog 75=some [.nilFunc]:=by kernel_rfl
theorem zc84:gH Tryz.prog 84=some [.complex .f32 0 0]:=by kernel_rfl
theorem zc88:gH Tryz.prog 88=some [.int .i64 0,.int .i64 0]:=by kernel_rfl
theorem Xw:aJ Tryz.prog 6=true:=by kernel_rfl
theorem Yb:aJ Tryz.prog 7=true:=by kernel_rfl
theorem Xk:aJ Tryz.prog 8=true:=by kernel_rfl
theorem Um:aJ Tryz.prog 9=true:=by kernel_rfl
theorem Wj:aJ Tryz.prog 10=true:=by kernel_rfl
theorem Wr:aJ Tryz.prog 11=true:=by kernel_rfl
theorem Uv:aJ Tryz.prog 12=true:=by kernel_rfl
theorem Uu:aJ Tryz.prog 13=true:=by kernel_rfl
theorem Vm:aJ Tryz.prog 14=true:=by kernel_rfl
theorem Vv:aJ Tryz.prog 15=true:=by kernel_rfl
theorem Gh:aJ Tryz.prog 16=true:=by kernel_rfl
theorem Yy:aJ Tryz.prog 17=true:=by kernel_rfl
theorem Zb:aJ Tryz.prog 18=true:=by kernel_rfl
theorem Kl:aJ Tryz.prog 19=true:=by kernel_rfl
theorem Zc:aJ Tryz.prog 20=true:=by kernel_rfl
theorem Zo:aJ Tryz.prog 21=true:=by kernel_rfl
theorem Yz:aJ Tryz.prog 22=true:=by kernel_rfl
theorem Zs:aJ Tryz.prog 23=true:=by kernel_rfl
theorem Zg:aJ Tryz.prog 24=true:=by kernel_rfl
theorem pW:aJ Tryz.prog 30=true:=by kernel_rfl
theorem Wi:aJ Tryz.prog 31=true:=by kernel_rfl
theorem Vx:aJ Tryz.prog 32=true:=by kernel_rfl
theorem Vy:aJ Tryz.prog 33=true:=by kernel_rfl
theorem Wv:aJ Tryz.prog 34=true:=by kernel_rfl
theorem Xj:aJ Tryz.prog 35=true:=by kernel_rfl
theorem iF:aJ Tryz.prog 36=true:=by kernel_rfl
theorem zM:aJ Tryz.prog 37=true:=by kernel_rfl
theorem Xe:aJ Tryz.prog 38=true:=by kernel_rfl
theorem Xa:aJ Tryz.prog 39=true:=by kernel_rfl
theorem Vg:aJ Tryz.prog 40=true:=by kernel_rfl
theorem Vj:aJ Tryz.prog 41=true:=by kernel_rfl
theorem Wp:aJ Tryz.prog 42=true:=by kernel_rfl
theorem Up:aJ Tryz.prog 43=true:=by kernel_rfl
theorem Vb:aJ Tryz.prog 44=true:=by kernel_rfl
theorem Uo:aJ Tryz.prog 45=true:=by kernel_rfl
theorem Vh:aJ Tryz.prog 46=true:=by kernel_rfl
theorem We:aJ Tryz.prog 47=true:=by kernel_rfl
theorem Wm:aJ Tryz.prog 48=true:=by kernel_rfl
theorem vV:aJ Tryz.prog 49=true:=by kernel_rfl
theorem Qq:aJ Tryz.prog 50=true:=by kernel_rfl
theorem Wt:aJ Tryz.prog 51=true:=by kernel_rfl
theorem Vd:aJ Tryz.prog 52=true:=by kernel_rfl
theorem Pw:aJ Tryz.prog 53=true:=by kernel_rfl
theorem Vq:aJ Tryz.prog 54=true:=by kernel_rfl
theorem Wh:aJ Tryz.prog 55=true:=by kernel_rfl
theorem Zk:aJ Tryz.prog 56=true:=by kernel_rfl
theorem Yt:aJ Tryz.prog 57=true:=by kernel_rfl
theorem Ko:aJ Tryz.prog 58=true:=by kernel_rfl
theorem Vs:aJ Tryz.prog 59=true:=by kernel_rfl
theorem Zf:aJ Tryz.prog 60=true:=by kernel_rfl
theorem Zy:aJ Tryz.prog 61=true:=by kernel_rfl
theorem Zl:aJ Tryz.prog 62=true:=by kernel_rfl
theorem Zu:aJ Tryz.prog 63=true:=by kernel_rfl
theorem Ze:aJ Tryz.prog 64=true:=by kernel_rfl
theorem Zx:aJ Tryz.prog 65=true:=by kernel_rfl
theorem Zm:aJ Tryz.prog 66=true:=by kernel_rfl
theorem Wz:aJ Tryz.prog 67=true:=by kernel_rfl
theorem Yx:aJ Tryz.prog 68=true:=by kernel_rfl
theorem Zt:aJ Tryz.prog 69=true:=by kernel_rfl
theorem Zq:aJ Tryz.prog 70=true:=by kernel_rfl
theorem Yu:aJ Tryz.prog 71=true:=by kernel_rfl
theorem Zw:aJ Tryz.prog 72=true:=by kernel_rfl
theorem Zv:aJ Tryz.prog 73=true:=by kernel_rfl
theorem Wd:aJ Tryz.prog 74=true:=by kernel_rfl
theorem Vp:aJ Tryz.prog 76=true:=by kernel_rfl
theorem Wn:aJ Tryz.prog 79=true:=by kernel_rfl
theorem Kp:aJ Tryz.prog 80=true:=by kernel_rfl
theorem Vn:aJ Tryz.prog 81=true:=by kernel_rfl
theorem Vz:aJ Tryz.prog 82=true:=by kernel_rfl
theorem Ur:aJ Tryz.prog 83=true:=by kernel_rfl
theorem Wl:aJ Tryz.prog 84=true:=by kernel_rfl
theorem nJ:aJ Tryz.prog 85=true:=by kernel_rfl
theorem Wu:aJ Tryz.prog 86=true:=by kernel_rfl
theorem Wg:aJ Tryz.prog 87=true:=by kernel_rfl
theorem Vi:aJ Tryz.prog 88=true:=by kernel_rfl
theorem Ve:aJ Tryz.prog 89=true:=by kernel_rfl
theorem Wc:aJ Tryz.prog 90=true:=by kernel_rfl
theorem Wa:aJ Tryz.prog 91=true:=by kernel_rfl
theorem Pf:aJ Tryz.prog 92=true:=by kernel_rfl
theorem Uz:aJ Tryz.prog 93=true:=by kernel_rfl
theorem Pt:aJ Tryz.prog 95=true:=by kernel_rfl
theorem Zj:aJ Tryz.prog 96=true:=by kernel_rfl
theorem Zd:aJ Tryz.prog 97=true:=by kernel_rfl
theorem Zp:aJ Tryz.prog 98=true:=by kernel_rfl
theorem Yw:aJ Tryz.prog 99=true:=by kernel_rfl
theorem Yp:aJ Tryz.prog 100=true:=by kernel_rfl
theorem Yn:aJ Tryz.prog 101=true:=by kernel_rfl
theorem Ys:aJ Tryz.prog 102=true:=by kernel_rfl
theorem Ym:aJ Tryz.prog 103=true:=by kernel_rfl
theorem Yi:aJ Tryz.prog 104=true:=by kernel_rfl
theorem Yr:aJ Tryz.prog 105=true:=by kernel_rfl
theorem Yj:aJ Tryz.prog 106=true:=by kernel_rfl
theorem Lw:aJ Tryz.prog 107=true:=by kernel_rfl
theorem Tb:aJ Tryz.prog 108=true:=by kernel_rfl
theorem Dz:aJ Tryz.prog 112=true:=by kernel_rfl
theorem Lr:aJ Tryz.prog 113=true:=by kernel_rfl
theorem zE:aJ Tryz.prog 114=true:=by kernel_rfl
theorem Tx:aJ Tryz.prog 115=true:=by kernel_rfl
theorem Ub:aJ Tryz.prog 116=true:=by kernel_rfl
theorem Lm:aJ Tryz.prog 117=true:=by kernel_rfl
theorem La:aJ Tryz.prog 118=true:=by kernel_rfl
theorem Yk:aJ Tryz.prog 119=true:=by kernel_rfl
theorem Yh:aJ Tryz.prog 120=true:=by kernel_rfl
theorem Yo:aJ Tryz.prog 121=true:=by kernel_rfl
theorem Yl:aJ Tryz.prog 122=true:=by kernel_rfl
theorem Lx:aJ Tryz.prog 123=true:=by kernel_rfl
theorem Ma:aJ Tryz.prog 124=true:=by kernel_rfl
theorem Ti:aJ Tryz.prog 126=true:=by kernel_rfl
theorem Tr:aJ Tryz.prog 127=true:=by kernel_rfl
theorem Tl:aJ Tryz.prog 128=true:=by kernel_rfl
theorem Tt:aJ Tryz.prog 129=true:=by kernel_rfl
theorem Ue:aJ Tryz.prog 132=true:=by kernel_rfl
def zn := And.intro Bool.not_true Bool.not_false
def zp.{u} := @List.getElem?_toArray.{u}
def zs.{u, v} := @Option.bind_some.{u, v}
def zl.{u} := @List.toList_toArray.{u}
end Go.Rex
