/- Facts on types and functions of the program. -/
import Derived.Test.YtjhneebncpmneaaGreatDoorS
import Derived.Test.YtjhneebncpmneaaGreatDoorRexG10
import Derived.Test.YtjhneebncpmneaaGreatDoorProg
set_option linter.unusedSimpArgs false
set_option linter.unusedVariables false
set_option linter.defProp false
namespace Go.Rex
open Go.Proofs
open Go Go.Rex Go.RowKit
set_option maxRecDepth 100000
theorem ag100:mX Tryz.prog 100=some true:=by kernel_rfl
theorem ag112:mX Tryz.prog 112=some true:=by kernel_rfl
theorem ag122:mX Tryz.prog 122=some false:=by kernel_rfl
theorem ag141:mX Tryz.prog 141=some false:=by kernel_rfl
theorem ag152:mX Tryz.prog 152=some true:=by kernel_rfl
theorem ag162:mX Tryz.prog 162=some true:=by kernel_rfl
theorem ag169:mX Tryz.prog 169=some true:=by kernel_rfl
theorem ag22:mX Tryz.prog 22=some false:=by kernel_rfl
theorem ag24:mX Tryz.prog 24=some true:=by kernel_rfl
theorem ag26:mX Tryz.prog 26=some true:=by kernel_rfl
theorem ag3:mX Tryz.prog 3=some false:=by kernel_rfl
theorem ag30:mX Tryz.prog 30=some true:=by kernel_rfl
theorem ag31:mX Tryz.prog 31=some false:=by kernel_rfl
theorem ag50:mX Tryz.prog 50=some true:=by kernel_rfl
theorem ag60:mX Tryz.prog 60=some true:=by kernel_rfl
theorem ag79:mX Tryz.prog 79=some false:=by kernel_rfl
theorem ag82:mX Tryz.prog 82=some false:=by kernel_rfl
theorem ag94:mX Tryz.prog 94=some true:=by kernel_rfl
theorem ar153:kT Tryz.prog 153=some (3,152):=by kernel_rfl
theorem ar170:kT Tryz.prog 170=some (4,169):=by kernel_rfl
theorem ar186:kT Tryz.prog 186=some (10,3):=by kernel_rfl
theorem ar60:kT Tryz.prog 60=some (2,3):=by kernel_rfl
theorem Qr:Nb Tryz.prog 194=true:=by kernel_rfl
theorem by100:lW Tryz.prog 100=16:=by kernel_rfl
theorem by82:lW Tryz.prog 82=4:=by kernel_rfl
theorem cs100:Tryz.prog.cellsOf 100=2:=by kernel_rfl
theorem cs112:Tryz.prog.cellsOf 112=2:=by kernel_rfl
theorem cs141:Tryz.prog.cellsOf 141=1:=by kernel_rfl
theorem cs152:Tryz.prog.cellsOf 152=3:=by kernel_rfl
theorem cs162:Tryz.prog.cellsOf 162=2:=by kernel_rfl
theorem cs169:Tryz.prog.cellsOf 169=2:=by kernel_rfl
theorem cs22:Tryz.prog.cellsOf 22=1:=by kernel_rfl
theorem cs24:Tryz.prog.cellsOf 24=2:=by kernel_rfl
theorem cs26:Tryz.prog.cellsOf 26=4:=by kernel_rfl
theorem cs3:Tryz.prog.cellsOf 3=1:=by kernel_rfl
theorem cs30:Tryz.prog.cellsOf 30=2:=by kernel_rfl
theorem cs31:Tryz.prog.cellsOf 31=1:=by kernel_rfl
theorem cs50:Tryz.prog.cellsOf 50=2:=by kernel_rfl
theorem cs60:Tryz.prog.cellsOf 60=2:=by kernel_rfl
theorem cs82:Tryz.prog.cellsOf 82=1:=by kernel_rfl
theorem cs94:Tryz.prog.cellsOf 94=4:=by kernel_rfl
theorem eqg30:Program.eqGuardType Tryz.prog Tryz.prog.depth 30=false:=by kernel_rfl
theorem eqg50:Program.eqGuardType Tryz.prog Tryz.prog.depth 50=false:=by kernel_rfl
theorem eqs30{a0 a1 b0 b1:Int}:prun Tryz.prog (Op.equal 30 (.agg ⟨[.int .i64 a0,.int .i64 a1]⟩) (.agg ⟨[.int .i64 b0,.int .i64 b1]⟩))=some ([a0==b0,a1==b1].all id):=Ty (Dj Tryz.underlying30 (by kernel_rfl) (EqF.cons (by decide) (lE (by kernel_rfl) rfl) (lE (by kernel_rfl) rfl) (Ei (by kernel_rfl)) (EqF.cons (by decide) (lE (by kernel_rfl) rfl) (lE (by kernel_rfl) rfl) (Ei (by kernel_rfl)) EqF.nil)))
theorem eqs50{a0 a1 b0 b1:Int}:prun Tryz.prog (Op.equal 50 (.agg ⟨[.int .i64 a0,.int .i64 a1]⟩) (.agg ⟨[.int .i64 b0,.int .i64 b1]⟩))=some ([a0==b0,a1==b1].all id):=Ty (Dj Tryz.underlying50 (by kernel_rfl) (EqF.cons (by decide) (lE (by kernel_rfl) rfl) (lE (by kernel_rfl) rfl) (Ei (by kernel_rfl)) (EqF.cons (by decide) (lE (by kernel_rfl) rfl) (lE (by kernel_rfl) rfl) (Ei (by kernel_rfl)) EqF.nil)))
theorem ex194 : Ey Tryz.prog 194 = some (Extern.MathFloor.toIntegral "math.archTrunc" .zero) := by kernel_rfl
theorem ex200:Ey Tryz.prog 200=some Extern.MathFloatBits.float64frombits:=by kernel_rfl
theorem ex78:Ey Tryz.prog 78=some Extern.MathFloatBits.float64bits:=by kernel_rfl
theorem iK:eY Tryz.prog 100 0=some (0,30):=by kernel_rfl
theorem Nr:eY Tryz.prog 112 0=some (0,3):=by kernel_rfl
theorem My:eY Tryz.prog 112 1=some (1,3):=by kernel_rfl
theorem Vm:eY Tryz.prog 152 0=some (0,3):=by kernel_rfl
theorem Uu:eY Tryz.prog 152 1=some (1,3):=by kernel_rfl
theorem Vj:eY Tryz.prog 152 2=some (2,3):=by kernel_rfl
theorem aAk:eY Tryz.prog 158 0=some (0,3):=by kernel_rfl
theorem aAn:eY Tryz.prog 158 1=some (1,3):=by kernel_rfl
theorem Mx:eY Tryz.prog 162 0=some (0,122):=by kernel_rfl
theorem Nx:eY Tryz.prog 162 1=some (1,122):=by kernel_rfl
theorem aAm:eY Tryz.prog 169 0=some (0,3):=by kernel_rfl
theorem aAi:eY Tryz.prog 169 1=some (1,3):=by kernel_rfl
theorem uN:eY Tryz.prog 24 0=some (0,3):=by kernel_rfl
theorem uM:eY Tryz.prog 24 1=some (1,22):=by kernel_rfl
theorem pU:eY Tryz.prog 26 0=some (0,24):=by kernel_rfl
theorem Ev:eY Tryz.prog 26 1=some (2,3):=by kernel_rfl
theorem Bk:eY Tryz.prog 26 2=some (3,3):=by kernel_rfl
theorem mQ:eY Tryz.prog 30 0=some (0,3):=by kernel_rfl
theorem mW:eY Tryz.prog 30 1=some (1,3):=by kernel_rfl
theorem aAu:eY Tryz.prog 50 0=some (0,3):=by kernel_rfl
theorem aAB:eY Tryz.prog 50 1=some (1,3):=by kernel_rfl
theorem Yc:eY Tryz.prog 81 0=some (0,79):=by kernel_rfl
theorem Yr:eY Tryz.prog 81 1=some (1,79):=by kernel_rfl
theorem uA:eY Tryz.prog 94 0=some (0,26):=by kernel_rfl
theorem ni22:mK Tryz.prog (some 22)=true:=by kernel_rfl
theorem ok100:okT Tryz.prog 100=true:=by kernel_rfl
theorem ok112:okT Tryz.prog 112=true:=by kernel_rfl
theorem ok141:okT Tryz.prog 141=true:=by kernel_rfl
theorem ok152:okT Tryz.prog 152=true:=by kernel_rfl
theorem ok162:okT Tryz.prog 162=true:=by kernel_rfl
theorem ok169:okT Tryz.prog 169=true:=by kernel_rfl
theorem ok22:okT Tryz.prog 22=true:=by kernel_rfl
theorem ok24:okT Tryz.prog 24=true:=by kernel_rfl
theorem ok26:okT Tryz.prog 26=true:=by kernel_rfl
theorem ok3:okT Tryz.prog 3=true:=by kernel_rfl
theorem ok30:okT Tryz.prog 30=true:=by kernel_rfl
theorem ok31:okT Tryz.prog 31=true:=by kernel_rfl
theorem ok50:okT Tryz.prog 50=true:=by kernel_rfl
theorem ok60:okT Tryz.prog 60=true:=by kernel_rfl
theorem ok82:okT Tryz.prog 82=true:=by kernel_rfl
theorem ok94:okT Tryz.prog 94=true:=by kernel_rfl
theorem so141:dM Tryz.prog 141=some 100:=by kernel_rfl
theorem so149:dM Tryz.prog 149=some 31:=by kernel_rfl
theorem so153:dM Tryz.prog 153=none:=by kernel_rfl
theorem so170:dM Tryz.prog 170=none:=by kernel_rfl
theorem so186:dM Tryz.prog 186=none:=by kernel_rfl
theorem so22:dM Tryz.prog 22=some 82:=by kernel_rfl
theorem so60:dM Tryz.prog 60=none:=by kernel_rfl
theorem so79:dM Tryz.prog 79=some 3:=by kernel_rfl
theorem st100:kE Tryz.prog 100=some [(0,2)]:=by kernel_rfl
theorem st112:kE Tryz.prog 112=some [(0,1),(1,1)]:=by kernel_rfl
theorem st158:kE Tryz.prog 158=some [(0,1),(1,1)]:=by kernel_rfl
theorem st162:kE Tryz.prog 162=some [(0,1),(1,1)]:=by kernel_rfl
theorem st186:kE Tryz.prog 186=none:=by kernel_rfl
theorem st24:kE Tryz.prog 24=some [(0,1),(1,1)]:=by kernel_rfl
theorem st26:kE Tryz.prog 26=some [(0,2),(2,1),(3,1)]:=by kernel_rfl
theorem st30:kE Tryz.prog 30=some [(0,1),(1,1)]:=by kernel_rfl
theorem st50:kE Tryz.prog 50=some [(0,1),(1,1)]:=by kernel_rfl
theorem st60:kE Tryz.prog 60=none:=by kernel_rfl
theorem st94:kE Tryz.prog 94=some [(0,4)]:=by kernel_rfl
theorem un121:Tryz.prog.underlying 121=some (.float .f64):=by kernel_rfl
theorem un122:Tryz.prog.underlying 122=some (.int .u64):=by kernel_rfl
theorem un195:Tryz.prog.underlying 195=some (.int .u64):=by kernel_rfl
theorem un3:Tryz.prog.underlying 3=some (.int .i64):=by kernel_rfl
theorem un5:Tryz.prog.underlying 5=some (.int .u8):=by kernel_rfl
theorem un82:Tryz.prog.underlying 82=some (.float .f32):=by kernel_rfl
theorem us9:Tryz.prog.underlying 9=some .string:=by kernel_rfl
theorem nJ:IntKind.i64.wrap (0+1)=1:=by decide
theorem Qj:IntKind.i64.wrap (0+16)=16:=by decide
theorem Re:IntKind.i64.wrap (0+8)=8:=by decide
theorem Zl:IntKind.i64.wrap (0-1)=(-1):=by decide
theorem Zk:IntKind.i64.wrap (10*1)=10:=by decide
theorem Pr:IntKind.i64.wrap (16+8)=24:=by decide
theorem Pi:IntKind.i64.wrap (1*10)=10:=by decide
theorem Kx:IntKind.i64.wrap (32+16)=48:=by decide
theorem Py:IntKind.i64.wrap (32+8)=40:=by decide
theorem Pf:IntKind.i64.wrap (48+8)=56:=by decide
theorem Qo:IntKind.i64.wrap (90-1)=89:=by decide
theorem Zj:IntKind.i64.wrap ((-1)-1)=(-2):=by decide
theorem Kp:IntKind.i64.wrap ((-90)+1)=(-89):=by decide
theorem zc100:fX Tryz.prog 100=some [.int .i64 0,.int .i64 0]:=by kernel_rfl
theorem zc112:fX Tryz.prog 112=some [.int .i64 0,.int .i64 0]:=by kernel_rfl
theorem zc141:fX Tryz.prog 141=some [.slice none 0 0]:=by kernel_rfl
theorem zc152:fX Tryz.prog 152=some [.int .i64 0,.int .i64 0,.int .i64 0]:=by kernel_rfl
theorem zc158:fX Tryz.prog 158=some [.int .i64 0,.int .i64 0]:=by kernel_rfl
theorem zc162:fX Tryz.prog 162=some [.int .u64 0,.int .u64 0]:=by kernel_rfl
theorem zc169:fX Tryz.prog 169=some [.int .i64 0,.int .i64 0]:=by kernel_rfl
theorem zc186:fX Tryz.prog 186=some [.int .i64 0,.int .i64 0,.int .i64 0,.int .i64 0,.int .i64 0,.int .i64 0,.int .i64 0,.int .i64 0,.int .i64 0,.int .i64 0]:=by kernel_rfl
theorem zc24:fX Tryz.prog 24=some [.int .i64 0,.slice none 0 0]:=by kernel_rfl
theorem zc26:fX Tryz.prog 26=some [.int .i64 0,.slice none 0 0,.int .i64 0,.int .i64 0]:=by kernel_rfl
theorem zc30:fX Tryz.prog 30=some [.int .i64 0,.int .i64 0]:=by kernel_rfl
theorem zc31:fX Tryz.prog 31=some [.int .i64 0]:=by kernel_rfl
theorem zc50:fX Tryz.prog 50=some [.int .i64 0,.int .i64 0]:=by kernel_rfl
theorem zc60:fX Tryz.prog 60=some [.int .i64 0,.int .i64 0]:=by kernel_rfl
theorem zc82:fX Tryz.prog 82=some [.float .f32 0]:=by kernel_rfl
theorem zc94:fX Tryz.prog 94=some [.int .i64 0,.slice none 0 0,.int .i64 0,.int .i64 0]:=by kernel_rfl
theorem Ys:aZ Tryz.prog 12=true:=by kernel_rfl
theorem Yh:aZ Tryz.prog 13=true:=by kernel_rfl
theorem Yt:aZ Tryz.prog 14=true:=by kernel_rfl
theorem Lh:aZ Tryz.prog 15=true:=by kernel_rfl
theorem Sk:aZ Tryz.prog 16=true:=by kernel_rfl
theorem fB:aZ Tryz.prog 17=true:=by kernel_rfl
theorem Yf:aZ Tryz.prog 18=true:=by kernel_rfl
theorem Yk:aZ Tryz.prog 19=true:=by kernel_rfl
theorem aAJ:aZ Tryz.prog 20=true:=by kernel_rfl
theorem aAw:aZ Tryz.prog 21=true:=by kernel_rfl
theorem aAo:aZ Tryz.prog 22=true:=by kernel_rfl
theorem Ef:aZ Tryz.prog 23=true:=by kernel_rfl
theorem aAz:aZ Tryz.prog 24=true:=by kernel_rfl
theorem xD:aZ Tryz.prog 25=true:=by kernel_rfl
theorem Qw:aZ Tryz.prog 26=true:=by kernel_rfl
theorem Zi:aZ Tryz.prog 27=true:=by kernel_rfl
theorem aAL:aZ Tryz.prog 28=true:=by kernel_rfl
theorem aAP:aZ Tryz.prog 29=true:=by kernel_rfl
theorem xF:aZ Tryz.prog 30=true:=by kernel_rfl
theorem aAG:aZ Tryz.prog 31=true:=by kernel_rfl
theorem aAR:aZ Tryz.prog 32=true:=by kernel_rfl
theorem aAK:aZ Tryz.prog 33=true:=by kernel_rfl
theorem aAs:aZ Tryz.prog 34=true:=by kernel_rfl
theorem aAN:aZ Tryz.prog 35=true:=by kernel_rfl
theorem aAX:aZ Tryz.prog 36=true:=by kernel_rfl
theorem aA1:aZ Tryz.prog 37=true:=by kernel_rfl
theorem aA4:aZ Tryz.prog 38=true:=by kernel_rfl
theorem aAZ:aZ Tryz.prog 39=true:=by kernel_rfl
theorem lU:aZ Tryz.prog 46=true:=by kernel_rfl
theorem jT:aZ Tryz.prog 47=true:=by kernel_rfl
theorem aAQ:aZ Tryz.prog 48=true:=by kernel_rfl
theorem Yx:aZ Tryz.prog 52=true:=by kernel_rfl
theorem Ec:aZ Tryz.prog 53=true:=by kernel_rfl
theorem oS:aZ Tryz.prog 54=true:=by kernel_rfl
theorem Zg:aZ Tryz.prog 55=true:=by kernel_rfl
theorem Zf:aZ Tryz.prog 56=true:=by kernel_rfl
theorem Sp:aZ Tryz.prog 57=true:=by kernel_rfl
theorem Yl:aZ Tryz.prog 58=true:=by kernel_rfl
theorem aAp:aZ Tryz.prog 59=true:=by kernel_rfl
theorem aAU:aZ Tryz.prog 60=true:=by kernel_rfl
theorem aAt:aZ Tryz.prog 61=true:=by kernel_rfl
theorem aA3:aZ Tryz.prog 62=true:=by kernel_rfl
theorem wZ:aZ Tryz.prog 63=true:=by kernel_rfl
theorem Rv:aZ Tryz.prog 64=true:=by kernel_rfl
theorem Ta:aZ Tryz.prog 65=true:=by kernel_rfl
theorem aAH:aZ Tryz.prog 66=true:=by kernel_rfl
theorem Tp:aZ Tryz.prog 67=true:=by kernel_rfl
theorem Yg:aZ Tryz.prog 68=true:=by kernel_rfl
theorem aAM:aZ Tryz.prog 69=true:=by kernel_rfl
theorem aAv:aZ Tryz.prog 70=true:=by kernel_rfl
theorem aAA:aZ Tryz.prog 71=true:=by kernel_rfl
theorem Ue:aZ Tryz.prog 72=true:=by kernel_rfl
theorem Uk:aZ Tryz.prog 73=true:=by kernel_rfl
theorem Xv:aZ Tryz.prog 74=true:=by kernel_rfl
theorem aAD:aZ Tryz.prog 75=true:=by kernel_rfl
theorem aAT:aZ Tryz.prog 76=true:=by kernel_rfl
theorem aA0:aZ Tryz.prog 77=true:=by kernel_rfl
theorem aAx:aZ Tryz.prog 79=true:=by kernel_rfl
theorem Xt:aZ Tryz.prog 89=true:=by kernel_rfl
theorem Lj:aZ Tryz.prog 90=true:=by kernel_rfl
theorem Ub:aZ Tryz.prog 91=true:=by kernel_rfl
theorem aAq:aZ Tryz.prog 92=true:=by kernel_rfl
theorem Sy:aZ Tryz.prog 93=true:=by kernel_rfl
theorem Xp:aZ Tryz.prog 95=true:=by kernel_rfl
theorem lR:aZ Tryz.prog 96=true:=by kernel_rfl
theorem Ko:aZ Tryz.prog 97=true:=by kernel_rfl
theorem Le:aZ Tryz.prog 98=true:=by kernel_rfl
theorem Sz:aZ Tryz.prog 99=true:=by kernel_rfl
theorem pJ:aZ Tryz.prog 100=true:=by kernel_rfl
theorem Ux:aZ Tryz.prog 101=true:=by kernel_rfl
theorem Wc:aZ Tryz.prog 102=true:=by kernel_rfl
theorem aAc:aZ Tryz.prog 103=true:=by kernel_rfl
theorem aAa:aZ Tryz.prog 104=true:=by kernel_rfl
theorem Mf:aZ Tryz.prog 105=true:=by kernel_rfl
theorem pM:aZ Tryz.prog 106=true:=by kernel_rfl
theorem Gi:aZ Tryz.prog 107=true:=by kernel_rfl
theorem aAe:aZ Tryz.prog 108=true:=by kernel_rfl
theorem aAd:aZ Tryz.prog 109=true:=by kernel_rfl
theorem aAl:aZ Tryz.prog 110=true:=by kernel_rfl
theorem Ny:aZ Tryz.prog 111=true:=by kernel_rfl
theorem Nm:aZ Tryz.prog 112=true:=by kernel_rfl
theorem pG:aZ Tryz.prog 113=true:=by kernel_rfl
theorem jW:aZ Tryz.prog 114=true:=by kernel_rfl
theorem aAg:aZ Tryz.prog 115=true:=by kernel_rfl
theorem Ws:aZ Tryz.prog 116=true:=by kernel_rfl
theorem Mk:aZ Tryz.prog 117=true:=by kernel_rfl
theorem Fp:aZ Tryz.prog 118=true:=by kernel_rfl
theorem zL:aZ Tryz.prog 119=true:=by kernel_rfl
theorem aAf:aZ Tryz.prog 120=true:=by kernel_rfl
theorem En:aZ Tryz.prog 121=true:=by kernel_rfl
theorem aAj:aZ Tryz.prog 122=true:=by kernel_rfl
theorem Wj:aZ Tryz.prog 134=true:=by kernel_rfl
theorem Np:aZ Tryz.prog 135=true:=by kernel_rfl
theorem Vo:aZ Tryz.prog 136=true:=by kernel_rfl
theorem Eu:aZ Tryz.prog 137=true:=by kernel_rfl
theorem tG:aZ Tryz.prog 138=true:=by kernel_rfl
theorem Wx:aZ Tryz.prog 139=true:=by kernel_rfl
theorem Wv:aZ Tryz.prog 140=true:=by kernel_rfl
theorem Wd:aZ Tryz.prog 141=true:=by kernel_rfl
theorem Vc:aZ Tryz.prog 142=true:=by kernel_rfl
theorem Wz:aZ Tryz.prog 143=true:=by kernel_rfl
theorem aAh:aZ Tryz.prog 144=true:=by kernel_rfl
theorem aAb:aZ Tryz.prog 145=true:=by kernel_rfl
theorem Wt:aZ Tryz.prog 153=true:=by kernel_rfl
theorem Vz:aZ Tryz.prog 154=true:=by kernel_rfl
theorem Vu:aZ Tryz.prog 155=true:=by kernel_rfl
theorem Vk:aZ Tryz.prog 168=true:=by kernel_rfl
theorem Vq:aZ Tryz.prog 169=true:=by kernel_rfl
theorem Wy:aZ Tryz.prog 181=true:=by kernel_rfl
theorem Vp:aZ Tryz.prog 185=true:=by kernel_rfl
theorem Va:aZ Tryz.prog 186=true:=by kernel_rfl
theorem We:aZ Tryz.prog 196=true:=by kernel_rfl
def zn := And.intro Bool.not_true Bool.not_false
def zp.{u} := @List.getElem?_toArray.{u}
def zs.{u, v} := @Option.bind_some.{u, v}
def zl.{u} := @List.toList_toArray.{u}
end Go.Rex
