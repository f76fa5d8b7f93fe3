/- Facts on types and functions of the program. -/
import Derived.Test.YtneefkifalbplaaGreatS
import Derived.Test.YtneefkifalbplaaGreatRexG11
import Derived.Test.YtneefkifalbplaaGreatProg
set_option linter.unusedSimpArgs false
set_option linter.unusedVariables false
set_option linter.defProp false
namespace Go.Rex
open Go.Proofs
open Go Go.Rex Go.RowKit
set_option maxRecDepth 100000
theorem ag108:rL Tryz.prog 108=some true:=by kernel_rfl
theorem ag115:rL Tryz.prog 115=some true:=by kernel_rfl
theorem ag118:rL Tryz.prog 118=some false:=by kernel_rfl
theorem ag24:rL Tryz.prog 24=some false:=by kernel_rfl
theorem ag26:rL Tryz.prog 26=some true:=by kernel_rfl
theorem ag28:rL Tryz.prog 28=some true:=by kernel_rfl
theorem ag3:rL Tryz.prog 3=some false:=by kernel_rfl
theorem ag32:rL Tryz.prog 32=some false:=by kernel_rfl
theorem ag36:rL Tryz.prog 36=some false:=by kernel_rfl
theorem ag39:rL Tryz.prog 39=some false:=by kernel_rfl
theorem ag4:rL Tryz.prog 4=some false:=by kernel_rfl
theorem ag47:rL Tryz.prog 47=some true:=by kernel_rfl
theorem ag59:rL Tryz.prog 59=some false:=by kernel_rfl
theorem ag84:rL Tryz.prog 84=some true:=by kernel_rfl
theorem ag87:rL Tryz.prog 87=some false:=by kernel_rfl
theorem ag90:rL Tryz.prog 90=some false:=by kernel_rfl
theorem ag94:rL Tryz.prog 94=some false:=by kernel_rfl
theorem ar37:uP Tryz.prog 37=some (2,36):=by kernel_rfl
theorem aAJ:Uo Tryz.prog 140=true:=by kernel_rfl
theorem by115:mN Tryz.prog 115=16:=by kernel_rfl
theorem by3:mN Tryz.prog 3=8:=by kernel_rfl
theorem by59:mN Tryz.prog 59=8:=by kernel_rfl
theorem cs108:Tryz.prog.cellsOf 108=3:=by kernel_rfl
theorem cs115:Tryz.prog.cellsOf 115=2:=by kernel_rfl
theorem cs24:Tryz.prog.cellsOf 24=1:=by kernel_rfl
theorem cs26:Tryz.prog.cellsOf 26=2:=by kernel_rfl
theorem cs28:Tryz.prog.cellsOf 28=3:=by kernel_rfl
theorem cs3:Tryz.prog.cellsOf 3=1:=by kernel_rfl
theorem cs36:Tryz.prog.cellsOf 36=1:=by kernel_rfl
theorem cs37:Tryz.prog.cellsOf 37=2:=by kernel_rfl
theorem cs47:Tryz.prog.cellsOf 47=3:=by kernel_rfl
theorem cs59:Tryz.prog.cellsOf 59=1:=by kernel_rfl
theorem cs84:Tryz.prog.cellsOf 84=2:=by kernel_rfl
theorem cs87:Tryz.prog.cellsOf 87=1:=by kernel_rfl
theorem cs94:Tryz.prog.cellsOf 94=1:=by kernel_rfl
theorem ex140 : Kf Tryz.prog 140 = some (Extern.MathFloor.toIntegral "math.archTrunc" .zero) := by kernel_rfl
theorem ex146:Kf Tryz.prog 146=some Extern.MathFloatBits.float64frombits:=by kernel_rfl
theorem ex92:Kf Tryz.prog 92=some Extern.MathFloatBits.float64bits:=by kernel_rfl
theorem pQ:nG Tryz.prog 108 0=some (0,47):=by kernel_rfl
theorem xG:nG Tryz.prog 115 0=some (0,3):=by kernel_rfl
theorem xK:nG Tryz.prog 115 1=some (1,3):=by kernel_rfl
theorem vK:nG Tryz.prog 26 0=some (0,3):=by kernel_rfl
theorem Bh:nG Tryz.prog 26 1=some (1,24):=by kernel_rfl
theorem Sa:nG Tryz.prog 28 0=some (0,26):=by kernel_rfl
theorem Yb:nG Tryz.prog 28 1=some (2,3):=by kernel_rfl
theorem vR:nG Tryz.prog 47 0=some (0,3):=by kernel_rfl
theorem Bx:nG Tryz.prog 47 1=some (1,3):=by kernel_rfl
theorem wS:nG Tryz.prog 47 2=some (2,3):=by kernel_rfl
theorem Ro:nG Tryz.prog 84 0=some (0,26):=by kernel_rfl
theorem ni24:mM Tryz.prog (some 24)=true:=by kernel_rfl
theorem ni32:mM Tryz.prog (some 32)=true:=by kernel_rfl
theorem ni90:mM Tryz.prog (some 90)=true:=by kernel_rfl
theorem ok108:okT Tryz.prog 108=true:=by kernel_rfl
theorem ok115:okT Tryz.prog 115=true:=by kernel_rfl
theorem ok24:okT Tryz.prog 24=true:=by kernel_rfl
theorem ok26:okT Tryz.prog 26=true:=by kernel_rfl
theorem ok28:okT Tryz.prog 28=true:=by kernel_rfl
theorem ok3:okT Tryz.prog 3=true:=by kernel_rfl
theorem ok36:okT Tryz.prog 36=true:=by kernel_rfl
theorem ok37:okT Tryz.prog 37=true:=by kernel_rfl
theorem ok47:okT Tryz.prog 47=true:=by kernel_rfl
theorem ok59:okT Tryz.prog 59=true:=by kernel_rfl
theorem ok84:okT Tryz.prog 84=true:=by kernel_rfl
theorem ok87:okT Tryz.prog 87=true:=by kernel_rfl
theorem ok94:okT Tryz.prog 94=true:=by kernel_rfl
theorem so131:dY Tryz.prog 131=some 87:=by kernel_rfl
theorem so23:dY Tryz.prog 23=some 37:=by kernel_rfl
theorem so24:dY Tryz.prog 24=some 3:=by kernel_rfl
theorem so32:dY Tryz.prog 32=some 59:=by kernel_rfl
theorem so37:dY Tryz.prog 37=none:=by kernel_rfl
theorem so90:dY Tryz.prog 90=some 115:=by kernel_rfl
theorem st108:tZ Tryz.prog 108=some [(0,3)]:=by kernel_rfl
theorem st115:tZ Tryz.prog 115=some [(0,1),(1,1)]:=by kernel_rfl
theorem st26:tZ Tryz.prog 26=some [(0,1),(1,1)]:=by kernel_rfl
theorem st47:tZ Tryz.prog 47=some [(0,1),(1,1),(2,1)]:=by kernel_rfl
theorem st84:tZ Tryz.prog 84=some [(0,2)]:=by kernel_rfl
theorem un105:Tryz.prog.underlying 105=some (.complex .f64):=by kernel_rfl
theorem un3:Tryz.prog.underlying 3=some (.int .i64):=by kernel_rfl
theorem un36:Tryz.prog.underlying 36=some (.float .f32):=by kernel_rfl
theorem un59:Tryz.prog.underlying 59=some (.complex .f32):=by kernel_rfl
theorem un81:Tryz.prog.underlying 81=some (.float .f64):=by kernel_rfl
theorem aV:IntKind.i64.wrap (0+1)=1:=by decide
theorem aAD:IntKind.i64.wrap (0*0)=0:=by decide
theorem kM:IntKind.i64.wrap (1+1)=2:=by decide
theorem oH:IntKind.i64.wrap (2+1)=3:=by decide
theorem aAl:IntKind.i64.wrap (2*0)=0:=by decide
theorem aAB:IntKind.i64.wrap (2*1)=2:=by decide
theorem Py:IntKind.i64.wrap (2*2)=4:=by decide
theorem zM:IntKind.i64.wrap (3+1)=4:=by decide
theorem Fc:IntKind.i64.wrap (4+1)=5:=by decide
theorem Pi:IntKind.i64.wrap (5+1)=6:=by decide
theorem zc108:jD Tryz.prog 108=some [.int .i64 0,.int .i64 0,.int .i64 0]:=by kernel_rfl
theorem zc115:jD Tryz.prog 115=some [.int .i64 0,.int .i64 0]:=by kernel_rfl
theorem zc24:jD Tryz.prog 24=some [.slice none 0 0]:=by kernel_rfl
theorem zc26:jD Tryz.prog 26=some [.int .i64 0,.slice none 0 0]:=by kernel_rfl
theorem zc28:jD Tryz.prog 28=some [.int .i64 0,.slice none 0 0,.int .i64 0]:=by kernel_rfl
theorem zc3:jD Tryz.prog 3=some [.int .i64 0]:=by kernel_rfl
theorem zc47:jD Tryz.prog 47=some [.int .i64 0,.int .i64 0,.int .i64 0]:=by kernel_rfl
theorem zc59:jD Tryz.prog 59=some [.complex .f32 0 0]:=by kernel_rfl
theorem zc84:jD Tryz.prog 84=some [.int .i64 0,.slice none 0 0]:=by kernel_rfl
theorem zc87:jD Tryz.prog 87=some [.nilFunc]:=by kernel_rfl
theorem zc94:jD Tryz.prog 94=some [.nilFunc]:=by kernel_rfl
theorem aDp:aN Tryz.prog 5=true:=by kernel_rfl
theorem aDu:aN Tryz.prog 6=true:=by kernel_rfl
theorem aDz:aN Tryz.prog 7=true:=by kernel_rfl
theorem Tr:aN Tryz.prog 8=true:=by kernel_rfl
theorem aDc:aN Tryz.prog 9=true:=by kernel_rfl
theorem aC9:aN Tryz.prog 10=true:=by kernel_rfl
theorem Sk:aN Tryz.prog 11=true:=by kernel_rfl
theorem aAu:aN Tryz.prog 12=true:=by kernel_rfl
theorem Fn:aN Tryz.prog 13=true:=by kernel_rfl
theorem aCF:aN Tryz.prog 14=true:=by kernel_rfl
theorem aAq:aN Tryz.prog 15=true:=by kernel_rfl
theorem Xz:aN Tryz.prog 16=true:=by kernel_rfl
theorem yV:aN Tryz.prog 17=true:=by kernel_rfl
theorem aCV:aN Tryz.prog 18=true:=by kernel_rfl
theorem aCh:aN Tryz.prog 19=true:=by kernel_rfl
theorem aAP:aN Tryz.prog 20=true:=by kernel_rfl
theorem Zf:aN Tryz.prog 21=true:=by kernel_rfl
theorem Yx:aN Tryz.prog 34=true:=by kernel_rfl
theorem aCG:aN Tryz.prog 35=true:=by kernel_rfl
theorem aCR:aN Tryz.prog 36=true:=by kernel_rfl
theorem nL:aN Tryz.prog 37=true:=by kernel_rfl
theorem Fs:aN Tryz.prog 38=true:=by kernel_rfl
theorem Rj:aN Tryz.prog 39=true:=by kernel_rfl
theorem Ly:aN Tryz.prog 40=true:=by kernel_rfl
theorem Rb:aN Tryz.prog 41=true:=by kernel_rfl
theorem Ks:aN Tryz.prog 42=true:=by kernel_rfl
theorem vH:aN Tryz.prog 43=true:=by kernel_rfl
theorem aAR:aN Tryz.prog 44=true:=by kernel_rfl
theorem Fd:aN Tryz.prog 45=true:=by kernel_rfl
theorem aAt:aN Tryz.prog 46=true:=by kernel_rfl
theorem aCm:aN Tryz.prog 47=true:=by kernel_rfl
theorem aCq:aN Tryz.prog 48=true:=by kernel_rfl
theorem uC:aN Tryz.prog 49=true:=by kernel_rfl
theorem Xu:aN Tryz.prog 50=true:=by kernel_rfl
theorem aCo:aN Tryz.prog 51=true:=by kernel_rfl
theorem iF:aN Tryz.prog 52=true:=by kernel_rfl
theorem aCg:aN Tryz.prog 53=true:=by kernel_rfl
theorem aCt:aN Tryz.prog 54=true:=by kernel_rfl
theorem aB7:aN Tryz.prog 55=true:=by kernel_rfl
theorem Ry:aN Tryz.prog 56=true:=by kernel_rfl
theorem aAF:aN Tryz.prog 57=true:=by kernel_rfl
theorem aB9:aN Tryz.prog 58=true:=by kernel_rfl
theorem aC1:aN Tryz.prog 59=true:=by kernel_rfl
theorem aCD:aN Tryz.prog 60=true:=by kernel_rfl
theorem aCA:aN Tryz.prog 61=true:=by kernel_rfl
theorem aCP:aN Tryz.prog 62=true:=by kernel_rfl
theorem Lv:aN Tryz.prog 63=true:=by kernel_rfl
theorem Ss:aN Tryz.prog 64=true:=by kernel_rfl
theorem aC0:aN Tryz.prog 65=true:=by kernel_rfl
theorem Kw:aN Tryz.prog 66=true:=by kernel_rfl
theorem Rq:aN Tryz.prog 68=true:=by kernel_rfl
theorem Rp:aN Tryz.prog 70=true:=by kernel_rfl
theorem aCe:aN Tryz.prog 71=true:=by kernel_rfl
theorem aC5:aN Tryz.prog 74=true:=by kernel_rfl
theorem aCj:aN Tryz.prog 77=true:=by kernel_rfl
theorem aCW:aN Tryz.prog 79=true:=by kernel_rfl
theorem Zl:aN Tryz.prog 82=true:=by kernel_rfl
theorem Le:aN Tryz.prog 83=true:=by kernel_rfl
theorem aCB:aN Tryz.prog 84=true:=by kernel_rfl
theorem aC8:aN Tryz.prog 85=true:=by kernel_rfl
theorem aCb:aN Tryz.prog 86=true:=by kernel_rfl
theorem Qx:aN Tryz.prog 87=true:=by kernel_rfl
theorem aAa:aN Tryz.prog 88=true:=by kernel_rfl
theorem aCl:aN Tryz.prog 89=true:=by kernel_rfl
theorem aAd:aN Tryz.prog 90=true:=by kernel_rfl
theorem jU:aN Tryz.prog 91=true:=by kernel_rfl
theorem aAc:aN Tryz.prog 93=true:=by kernel_rfl
theorem aAT:aN Tryz.prog 94=true:=by kernel_rfl
theorem Xq:aN Tryz.prog 95=true:=by kernel_rfl
theorem aCZ:aN Tryz.prog 96=true:=by kernel_rfl
theorem aCy:aN Tryz.prog 97=true:=by kernel_rfl
theorem aCX:aN Tryz.prog 98=true:=by kernel_rfl
theorem wH:aN Tryz.prog 99=true:=by kernel_rfl
theorem Vg:aN Tryz.prog 100=true:=by kernel_rfl
theorem Tg:aN Tryz.prog 101=true:=by kernel_rfl
theorem aBp:aN Tryz.prog 102=true:=by kernel_rfl
theorem Mj:aN Tryz.prog 103=true:=by kernel_rfl
theorem Tj:aN Tryz.prog 105=true:=by kernel_rfl
theorem Tf:aN Tryz.prog 113=true:=by kernel_rfl
theorem aBB:aN Tryz.prog 114=true:=by kernel_rfl
theorem aBT:aN Tryz.prog 118=true:=by kernel_rfl
theorem Ui:aN Tryz.prog 119=true:=by kernel_rfl
theorem Dl:aN Tryz.prog 120=true:=by kernel_rfl
theorem aBn:aN Tryz.prog 121=true:=by kernel_rfl
theorem aBx:aN Tryz.prog 122=true:=by kernel_rfl
theorem aA6:aN Tryz.prog 123=true:=by kernel_rfl
theorem aBo:aN Tryz.prog 124=true:=by kernel_rfl
theorem aBg:aN Tryz.prog 125=true:=by kernel_rfl
theorem Kk:aN Tryz.prog 126=true:=by kernel_rfl
theorem Ue:aN Tryz.prog 131=true:=by kernel_rfl
theorem Uw:aN Tryz.prog 132=true:=by kernel_rfl
theorem aBj:aN Tryz.prog 134=true:=by kernel_rfl
theorem aA5:aN Tryz.prog 135=true:=by kernel_rfl
theorem aBA:aN Tryz.prog 136=true:=by kernel_rfl
theorem aA4:aN Tryz.prog 137=true:=by kernel_rfl
theorem aBH:aN Tryz.prog 142=true:=by kernel_rfl
def zn:=And.intro Bool.not_true n5
def zp.{u}:=@List.getElem?_toArray.{u}
def zs.{u,v}:=@Option.bind_some.{u,v}
def zl.{u}:=@List.toList_toArray.{u}
end Go.Rex
