/- Facts on types and functions of the program. -/
import Derived.Test.YtjhneebncpmneaaGreatDoorS
import Derived.Test.YtjhneebncpmneaaGreatDoorRexG10
import Derived.Test.YtjhneebncpmneaaGreatDoorProg
set_option linter.unusedSimpArgs false
set_option linter.unusedVariables false
set_option linter.defProp false
namespace Go.Rex
open Go.Proofs
open Go Go.Rex Go.RowKit
set_option maxRecDepth 100000
theorem ag100:mN Tryz.prog 100=some true:=by kernel_rfl
theorem ag112:mN Tryz.prog 112=some true:=by kernel_rfl
theorem ag122:mN Tryz.prog 122=some false:=by kernel_rfl
theorem ag141:mN Tryz.prog 141=some false:=by kernel_rfl
theorem ag152:mN Tryz.prog 152=some true:=by kernel_rfl
theorem ag162:mN Tryz.prog 162=some true:=by kernel_rfl
theorem ag169:mN Tryz.prog 169=some true:=by kernel_rfl
theorem ag22:mN Tryz.prog 22=some false:=by kernel_rfl
theorem ag24:mN Tryz.prog 24=some true:=by kernel_rfl
theorem ag26:mN Tryz.prog 26=some true:=by kernel_rfl
theorem ag3:mN Tryz.prog 3=some false:=by kernel_rfl
theorem ag30:mN Tryz.prog 30=some true:=by kernel_rfl
theorem ag31:mN Tryz.prog 31=some false:=by kernel_rfl
theorem ag50:mN Tryz.prog 50=some true:=by kernel_rfl
theorem ag60:mN Tryz.prog 60=some true:=by kernel_rfl
theorem ag79:mN Tryz.prog 79=some false:=by kernel_rfl
theorem ag82:mN Tryz.prog 82=some false:=by kernel_rfl
theorem ag94:mN Tryz.prog 94=some true:=by kernel_rfl
theorem ar153:kS Tryz.prog 153=some (3,152):=by kernel_rfl
theorem ar170:kS Tryz.prog 170=some (4,169):=by kernel_rfl
theorem ar186:kS Tryz.prog 186=some (10,3):=by kernel_rfl
theorem ar60:kS Tryz.prog 60=some (2,3):=by kernel_rfl
theorem Sa:Ln Tryz.prog 194=true:=by kernel_rfl
theorem by100:nS Tryz.prog 100=16:=by kernel_rfl
theorem by82:nS Tryz.prog 82=4:=by kernel_rfl
theorem cs100:Tryz.prog.cellsOf 100=2:=by kernel_rfl
theorem cs112:Tryz.prog.cellsOf 112=2:=by kernel_rfl
theorem cs141:Tryz.prog.cellsOf 141=1:=by kernel_rfl
theorem cs152:Tryz.prog.cellsOf 152=3:=by kernel_rfl
theorem cs162:Tryz.prog.cellsOf 162=2:=by kernel_rfl
theorem cs169:Tryz.prog.cellsOf 169=2:=by kernel_rfl
theorem cs22:Tryz.prog.cellsOf 22=1:=by kernel_rfl
theorem cs24:Tryz.prog.cellsOf 24=2:=by kernel_rfl
theorem cs26:Tryz.prog.cellsOf 26=4:=by kernel_rfl
theorem cs3:Tryz.prog.cellsOf 3=1:=by kernel_rfl
theorem cs30:Tryz.prog.cellsOf 30=2:=by kernel_rfl
theorem cs31:Tryz.prog.cellsOf 31=1:=by kernel_rfl
theorem cs50:Tryz.prog.cellsOf 50=2:=by kernel_rfl
theorem cs60:Tryz.prog.cellsOf 60=2:=by kernel_rfl
theorem cs82:Tryz.prog.cellsOf 82=1:=by kernel_rfl
theorem cs94:Tryz.prog.cellsOf 94=4:=by kernel_rfl
theorem eqg30:Program.eqGuardType Tryz.prog Tryz.prog.depth 30=false:=by kernel_rfl
theorem eqg50:Program.eqGuardType Tryz.prog Tryz.prog.depth 50=false:=by kernel_rfl
theorem eqs30{a0 a1 b0 b1:Int}:prun Tryz.prog (Op.equal 30 (.agg ⟨[.int .i64 a0,.int .i64 a1]⟩) (.agg ⟨[.int .i64 b0,.int .i64 b1]⟩))=some ([a0==b0,a1==b1].all id):=Sr (Cw Tryz.underlying30 (by kernel_rfl) (EqF.cons (by decide) (lD (by kernel_rfl) rfl) (lD (by kernel_rfl) rfl) (Eq (by kernel_rfl)) (EqF.cons (by decide) (lD (by kernel_rfl) rfl) (lD (by kernel_rfl) rfl) (Eq (by kernel_rfl)) EqF.nil)))
theorem eqs50{a0 a1 b0 b1:Int}:prun Tryz.prog (Op.equal 50 (.agg ⟨[.int .i64 a0,.int .i64 a1]⟩) (.agg ⟨[.int .i64 b0,.int .i64 b1]⟩))=some ([a0==b0,a1==b1].all id):=Sr (Cw Tryz.underlying50 (by kernel_rfl) (EqF.cons (by decide) (lD (by kernel_rfl) rfl) (lD (by kernel_rfl) rfl) (Eq (by kernel_rfl)) (EqF.cons (by decide) (lD (by kernel_rfl) rfl) (lD (by kernel_rfl) rfl) (Eq (by kernel_rfl)) EqF.nil)))
theorem ex194 : Ej Tryz.prog 194 = some (Extern.MathFloor.toIntegral "math.archTrunc" .zero) := by kernel_rfl
theorem ex200:Ej Tryz.prog 200=some Extern.MathFloatBits.float64frombits:=by kernel_rfl
theorem ex78:Ej Tryz.prog 78=some Extern.MathFloatBits.float64bits:=by kernel_rfl
theorem gS:eY Tryz.prog 100 0=some (0,30):=by kernel_rfl
theorem Ly:eY Tryz.prog 112 0=some (0,3):=by kernel_rfl
theorem My:eY Tryz.prog 112 1=some (1,3):=by kernel_rfl
theorem Wj:eY Tryz.prog 152 0=some (0,3):=by kernel_rfl
theorem Wb:eY Tryz.prog 152 1=some (1,3):=by kernel_rfl
theorem Vb:eY Tryz.prog 152 2=some (2,3):=by kernel_rfl
theorem aAc:eY Tryz.prog 158 0=some (0,3):=by kernel_rfl
theorem Zy:eY Tryz.prog 158 1=some (1,3):=by kernel_rfl
theorem Nd:eY Tryz.prog 162 0=some (0,122):=by kernel_rfl
theorem Ml:eY Tryz.prog 162 1=some (1,122):=by kernel_rfl
theorem Zx:eY Tryz.prog 169 0=some (0,3):=by kernel_rfl
theorem aAe:eY Tryz.prog 169 1=some (1,3):=by kernel_rfl
theorem uL:eY Tryz.prog 24 0=some (0,3):=by kernel_rfl
theorem uF:eY Tryz.prog 24 1=some (1,22):=by kernel_rfl
theorem sG:eY Tryz.prog 26 0=some (0,24):=by kernel_rfl
theorem Tg:eY Tryz.prog 26 1=some (2,3):=by kernel_rfl
theorem Lg:eY Tryz.prog 26 2=some (3,3):=by kernel_rfl
theorem lX:eY Tryz.prog 30 0=some (0,3):=by kernel_rfl
theorem oK:eY Tryz.prog 30 1=some (1,3):=by kernel_rfl
theorem Ze:eY Tryz.prog 50 0=some (0,3):=by kernel_rfl
theorem Yn:eY Tryz.prog 50 1=some (1,3):=by kernel_rfl
theorem aAN:eY Tryz.prog 81 0=some (0,79):=by kernel_rfl
theorem aAr:eY Tryz.prog 81 1=some (1,79):=by kernel_rfl
theorem uW:eY Tryz.prog 94 0=some (0,26):=by kernel_rfl
theorem ni22:qB Tryz.prog (some 22)=true:=by kernel_rfl
theorem ok100:okT Tryz.prog 100=true:=by kernel_rfl
theorem ok112:okT Tryz.prog 112=true:=by kernel_rfl
theorem ok141:okT Tryz.prog 141=true:=by kernel_rfl
theorem ok152:okT Tryz.prog 152=true:=by kernel_rfl
theorem ok162:okT Tryz.prog 162=true:=by kernel_rfl
theorem ok169:okT Tryz.prog 169=true:=by kernel_rfl
theorem ok22:okT Tryz.prog 22=true:=by kernel_rfl
theorem ok24:okT Tryz.prog 24=true:=by kernel_rfl
theorem ok26:okT Tryz.prog 26=true:=by kernel_rfl
theorem ok3:okT Tryz.prog 3=true:=by kernel_rfl
theorem ok30:okT Tryz.prog 30=true:=by kernel_rfl
theorem ok31:okT Tryz.prog 31=true:=by kernel_rfl
theorem ok50:okT Tryz.prog 50=true:=by kernel_rfl
theorem ok60:okT Tryz.prog 60=true:=by kernel_rfl
theorem ok82:okT Tryz.prog 82=true:=by kernel_rfl
theorem ok94:okT Tryz.prog 94=true:=by kernel_rfl
theorem so141:eT Tryz.prog 141=some 100:=by kernel_rfl
theorem so149:eT Tryz.prog 149=some 31:=by kernel_rfl
theorem so153:eT Tryz.prog 153=none:=by kernel_rfl
theorem so170:eT Tryz.prog 170=none:=by kernel_rfl
theorem so186:eT Tryz.prog 186=none:=by kernel_rfl
theorem so22:eT Tryz.prog 22=some 82:=by kernel_rfl
theorem so60:eT Tryz.prog 60=none:=by kernel_rfl
theorem so79:eT Tryz.prog 79=some 3:=by kernel_rfl
theorem st100:kG Tryz.prog 100=some [(0,2)]:=by kernel_rfl
theorem st112:kG Tryz.prog 112=some [(0,1),(1,1)]:=by kernel_rfl
theorem st158:kG Tryz.prog 158=some [(0,1),(1,1)]:=by kernel_rfl
theorem st162:kG Tryz.prog 162=some [(0,1),(1,1)]:=by kernel_rfl
theorem st186:kG Tryz.prog 186=none:=by kernel_rfl
theorem st24:kG Tryz.prog 24=some [(0,1),(1,1)]:=by kernel_rfl
theorem st26:kG Tryz.prog 26=some [(0,2),(2,1),(3,1)]:=by kernel_rfl
theorem st30:kG Tryz.prog 30=some [(0,1),(1,1)]:=by kernel_rfl
theorem st50:kG Tryz.prog 50=some [(0,1),(1,1)]:=by kernel_rfl
theorem st60:kG Tryz.prog 60=none:=by kernel_rfl
theorem st94:kG Tryz.prog 94=some [(0,4)]:=by kernel_rfl
theorem un121:Tryz.prog.underlying 121=some (.float .f64):=by kernel_rfl
theorem un122:Tryz.prog.underlying 122=some (.int .u64):=by kernel_rfl
theorem un195:Tryz.prog.underlying 195=some (.int .u64):=by kernel_rfl
theorem un3:Tryz.prog.underlying 3=some (.int .i64):=by kernel_rfl
theorem un5:Tryz.prog.underlying 5=some (.int .u8):=by kernel_rfl
theorem un82:Tryz.prog.underlying 82=some (.float .f32):=by kernel_rfl
theorem us9:Tryz.prog.underlying 9=some .string:=by kernel_rfl
theorem lW:IntKind.i64.wrap (0+1)=1:=by decide
theorem Pc:IntKind.i64.wrap (0+16)=16:=by decide
theorem Ua:IntKind.i64.wrap (0+8)=8:=by decide
theorem Zt:IntKind.i64.wrap (0-1)=(-1):=by decide
theorem Zf:IntKind.i64.wrap (10*1)=10:=by decide
theorem Px:IntKind.i64.wrap (16+8)=24:=by decide
theorem Nr:IntKind.i64.wrap (1*10)=10:=by decide
theorem Kr:IntKind.i64.wrap (32+16)=48:=by decide
theorem Pr:IntKind.i64.wrap (32+8)=40:=by decide
theorem Pm:IntKind.i64.wrap (48+8)=56:=by decide
theorem Ns:IntKind.i64.wrap (90-1)=89:=by decide
theorem Zg:IntKind.i64.wrap ((-1)-1)=(-2):=by decide
theorem Kp:IntKind.i64.wrap ((-90)+1)=(-89):=by decide
theorem zc100:gU Tryz.prog 100=some [.int .i64 0,.int .i64 0]:=by kernel_rfl
theorem zc112:gU Tryz.prog 112=some [.int .i64 0,.int .i64 0]:=by kernel_rfl
theorem zc141:gU Tryz.prog 141=some [.slice none 0 0]:=by kernel_rfl
theorem zc152:gU Tryz.prog 152=some [.int .i64 0,.int .i64 0,.int .i64 0]:=by kernel_rfl
theorem zc158:gU Tryz.prog 158=some [.int .i64 0,.int .i64 0]:=by kernel_rfl
theorem zc162:gU Tryz.prog 162=some [.int .u64 0,.int .u64 0]:=by kernel_rfl
theorem zc169:gU Tryz.prog 169=some [.int .i64 0,.int .i64 0]:=by kernel_rfl
theorem zc186:gU Tryz.prog 186=some [.int .i64 0,.int .i64 0,.int .i64 0,.int .i64 0,.int .i64 0,.int .i64 0,.int .i64 0,.int .i64 0,.int .i64 0,.int .i64 0]:=by kernel_rfl
theorem zc24:gU Tryz.prog 24=some [.int .i64 0,.slice none 0 0]:=by kernel_rfl
theorem zc26:gU Tryz.prog 26=some [.int .i64 0,.slice none 0 0,.int .i64 0,.int .i64 0]:=by kernel_rfl
theorem zc30:gU Tryz.prog 30=some [.int .i64 0,.int .i64 0]:=by kernel_rfl
theorem zc31:gU Tryz.prog 31=some [.int .i64 0]:=by kernel_rfl
theorem zc50:gU Tryz.prog 50=some [.int .i64 0,.int .i64 0]:=by kernel_rfl
theorem zc60:gU Tryz.prog 60=some [.int .i64 0,.int .i64 0]:=by kernel_rfl
theorem zc82:gU Tryz.prog 82=some [.float .f32 0]:=by kernel_rfl
theorem zc94:gU Tryz.prog 94=some [.int .i64 0,.slice none 0 0,.int .i64 0,.int .i64 0]:=by kernel_rfl
theorem Ym:aV Tryz.prog 12=true:=by kernel_rfl
theorem Yc:aV Tryz.prog 13=true:=by kernel_rfl
theorem Sq:aV Tryz.prog 14=true:=by kernel_rfl
theorem sU:aV Tryz.prog 15=true:=by kernel_rfl
theorem Yk:aV Tryz.prog 16=true:=by kernel_rfl
theorem Es:aV Tryz.prog 17=true:=by kernel_rfl
theorem Yg:aV Tryz.prog 18=true:=by kernel_rfl
theorem aAs:aV Tryz.prog 19=true:=by kernel_rfl
theorem aAD:aV Tryz.prog 20=true:=by kernel_rfl
theorem aAG:aV Tryz.prog 21=true:=by kernel_rfl
theorem aAP:aV Tryz.prog 22=true:=by kernel_rfl
theorem Eb:aV Tryz.prog 23=true:=by kernel_rfl
theorem aAK:aV Tryz.prog 24=true:=by kernel_rfl
theorem Ki:aV Tryz.prog 25=true:=by kernel_rfl
theorem Ue:aV Tryz.prog 26=true:=by kernel_rfl
theorem Xt:aV Tryz.prog 27=true:=by kernel_rfl
theorem aAz:aV Tryz.prog 28=true:=by kernel_rfl
theorem Sg:aV Tryz.prog 29=true:=by kernel_rfl
theorem aAk:aV Tryz.prog 30=true:=by kernel_rfl
theorem aAJ:aV Tryz.prog 31=true:=by kernel_rfl
theorem aAQ:aV Tryz.prog 32=true:=by kernel_rfl
theorem aAE:aV Tryz.prog 33=true:=by kernel_rfl
theorem aAL:aV Tryz.prog 34=true:=by kernel_rfl
theorem aAH:aV Tryz.prog 35=true:=by kernel_rfl
theorem aAS:aV Tryz.prog 36=true:=by kernel_rfl
theorem aAU:aV Tryz.prog 37=true:=by kernel_rfl
theorem aAy:aV Tryz.prog 38=true:=by kernel_rfl
theorem aAA:aV Tryz.prog 39=true:=by kernel_rfl
theorem aAq:aV Tryz.prog 46=true:=by kernel_rfl
theorem Tr:aV Tryz.prog 47=true:=by kernel_rfl
theorem Ul:aV Tryz.prog 48=true:=by kernel_rfl
theorem Ku:aV Tryz.prog 52=true:=by kernel_rfl
theorem zT:aV Tryz.prog 53=true:=by kernel_rfl
theorem nR:aV Tryz.prog 54=true:=by kernel_rfl
theorem Yo:aV Tryz.prog 55=true:=by kernel_rfl
theorem Yy:aV Tryz.prog 56=true:=by kernel_rfl
theorem Yv:aV Tryz.prog 57=true:=by kernel_rfl
theorem aAj:aV Tryz.prog 58=true:=by kernel_rfl
theorem aAp:aV Tryz.prog 59=true:=by kernel_rfl
theorem aAC:aV Tryz.prog 60=true:=by kernel_rfl
theorem aAn:aV Tryz.prog 61=true:=by kernel_rfl
theorem aAT:aV Tryz.prog 62=true:=by kernel_rfl
theorem uV:aV Tryz.prog 63=true:=by kernel_rfl
theorem Sk:aV Tryz.prog 64=true:=by kernel_rfl
theorem Rd:aV Tryz.prog 65=true:=by kernel_rfl
theorem aAv:aV Tryz.prog 66=true:=by kernel_rfl
theorem Si:aV Tryz.prog 67=true:=by kernel_rfl
theorem Xr:aV Tryz.prog 68=true:=by kernel_rfl
theorem aAx:aV Tryz.prog 69=true:=by kernel_rfl
theorem aAu:aV Tryz.prog 70=true:=by kernel_rfl
theorem Xm:aV Tryz.prog 71=true:=by kernel_rfl
theorem Tp:aV Tryz.prog 72=true:=by kernel_rfl
theorem Kl:aV Tryz.prog 73=true:=by kernel_rfl
theorem aAF:aV Tryz.prog 74=true:=by kernel_rfl
theorem aAM:aV Tryz.prog 75=true:=by kernel_rfl
theorem aAB:aV Tryz.prog 76=true:=by kernel_rfl
theorem aAl:aV Tryz.prog 77=true:=by kernel_rfl
theorem aAt:aV Tryz.prog 79=true:=by kernel_rfl
theorem Yt:aV Tryz.prog 89=true:=by kernel_rfl
theorem Fl:aV Tryz.prog 90=true:=by kernel_rfl
theorem Kw:aV Tryz.prog 91=true:=by kernel_rfl
theorem Ye:aV Tryz.prog 92=true:=by kernel_rfl
theorem Jr:aV Tryz.prog 93=true:=by kernel_rfl
theorem Yj:aV Tryz.prog 95=true:=by kernel_rfl
theorem lV:aV Tryz.prog 96=true:=by kernel_rfl
theorem Jl:aV Tryz.prog 97=true:=by kernel_rfl
theorem Ll:aV Tryz.prog 98=true:=by kernel_rfl
theorem Tl:aV Tryz.prog 99=true:=by kernel_rfl
theorem tP:aV Tryz.prog 100=true:=by kernel_rfl
theorem Wu:aV Tryz.prog 101=true:=by kernel_rfl
theorem Vy:aV Tryz.prog 102=true:=by kernel_rfl
theorem aAh:aV Tryz.prog 103=true:=by kernel_rfl
theorem aAf:aV Tryz.prog 104=true:=by kernel_rfl
theorem Mi:aV Tryz.prog 105=true:=by kernel_rfl
theorem pB:aV Tryz.prog 106=true:=by kernel_rfl
theorem Ew:aV Tryz.prog 107=true:=by kernel_rfl
theorem aAb:aV Tryz.prog 108=true:=by kernel_rfl
theorem aAi:aV Tryz.prog 109=true:=by kernel_rfl
theorem Zz:aV Tryz.prog 110=true:=by kernel_rfl
theorem Wm:aV Tryz.prog 111=true:=by kernel_rfl
theorem Ma:aV Tryz.prog 112=true:=by kernel_rfl
theorem pR:aV Tryz.prog 113=true:=by kernel_rfl
theorem kV:aV Tryz.prog 114=true:=by kernel_rfl
theorem Wg:aV Tryz.prog 115=true:=by kernel_rfl
theorem Uq:aV Tryz.prog 116=true:=by kernel_rfl
theorem Nh:aV Tryz.prog 117=true:=by kernel_rfl
theorem Wl:aV Tryz.prog 118=true:=by kernel_rfl
theorem Mh:aV Tryz.prog 119=true:=by kernel_rfl
theorem aAg:aV Tryz.prog 120=true:=by kernel_rfl
theorem Dv:aV Tryz.prog 121=true:=by kernel_rfl
theorem aAd:aV Tryz.prog 122=true:=by kernel_rfl
theorem Wo:aV Tryz.prog 134=true:=by kernel_rfl
theorem Lw:aV Tryz.prog 135=true:=by kernel_rfl
theorem Vi:aV Tryz.prog 136=true:=by kernel_rfl
theorem Ft:aV Tryz.prog 137=true:=by kernel_rfl
theorem tK:aV Tryz.prog 138=true:=by kernel_rfl
theorem Wq:aV Tryz.prog 139=true:=by kernel_rfl
theorem Va:aV Tryz.prog 140=true:=by kernel_rfl
theorem Ux:aV Tryz.prog 141=true:=by kernel_rfl
theorem Vv:aV Tryz.prog 142=true:=by kernel_rfl
theorem Vh:aV Tryz.prog 143=true:=by kernel_rfl
theorem We:aV Tryz.prog 144=true:=by kernel_rfl
theorem aAa:aV Tryz.prog 145=true:=by kernel_rfl
theorem Us:aV Tryz.prog 153=true:=by kernel_rfl
theorem Wx:aV Tryz.prog 154=true:=by kernel_rfl
theorem Ww:aV Tryz.prog 155=true:=by kernel_rfl
theorem Vu:aV Tryz.prog 168=true:=by kernel_rfl
theorem Wh:aV Tryz.prog 169=true:=by kernel_rfl
theorem Wv:aV Tryz.prog 181=true:=by kernel_rfl
theorem Uw:aV Tryz.prog 185=true:=by kernel_rfl
theorem Wi:aV Tryz.prog 186=true:=by kernel_rfl
theorem Wp:aV Tryz.prog 196=true:=by kernel_rfl
def zn := And.intro Bool.not_true Bool.not_false
def zp.{u} := @List.getElem?_toArray.{u}
def zs.{u, v} := @Option.bind_some.{u, v}
def zl.{u} := @List.toList_toArray.{u}
end Go.Rex
