/- Facts on types and functions of the program. -/
import Derived.Test.YtneefkifalbplaaGreatS
import Derived.Test.YtneefkifalbplaaGreatRexG11
import Derived.Test.YtneefkifalbplaaGreatProg
set_option linter.unusedSimpArgs false
set_option linter.unusedVariables false
set_option linter.defProp false
namespace Go.Rex
open Go.Proofs
open Go Go.Rex Go.RowKit
set_option maxRecDepth 100000
theorem ag115:nH Tryz.prog 115=some true:=by kernel_rfl
theorem ag118:nH Tryz.prog 118=some false:=by kernel_rfl
theorem ag122:nH Tryz.prog 122=some true:=by kernel_rfl
theorem ag126:nH Tryz.prog 126=some true:=by kernel_rfl
theorem ag142:nH Tryz.prog 142=some true:=by kernel_rfl
theorem ag148:nH Tryz.prog 148=some true:=by kernel_rfl
theorem ag24:nH Tryz.prog 24=some false:=by kernel_rfl
theorem ag26:nH Tryz.prog 26=some true:=by kernel_rfl
theorem ag28:nH Tryz.prog 28=some true:=by kernel_rfl
theorem ag3:nH Tryz.prog 3=some false:=by kernel_rfl
theorem ag32:nH Tryz.prog 32=some false:=by kernel_rfl
theorem ag36:nH Tryz.prog 36=some false:=by kernel_rfl
theorem ag39:nH Tryz.prog 39=some false:=by kernel_rfl
theorem ag4:nH Tryz.prog 4=some false:=by kernel_rfl
theorem ag59:nH Tryz.prog 59=some false:=by kernel_rfl
theorem ag61:nH Tryz.prog 61=some false:=by kernel_rfl
theorem ag62:nH Tryz.prog 62=some false:=by kernel_rfl
theorem ag64:nH Tryz.prog 64=some true:=by kernel_rfl
theorem ag65:nH Tryz.prog 65=some true:=by kernel_rfl
theorem ag71:nH Tryz.prog 71=some true:=by kernel_rfl
theorem ag84:nH Tryz.prog 84=some true:=by kernel_rfl
theorem ag87:nH Tryz.prog 87=some false:=by kernel_rfl
theorem ag90:nH Tryz.prog 90=some false:=by kernel_rfl
theorem ag94:nH Tryz.prog 94=some false:=by kernel_rfl
theorem ar65:rJ Tryz.prog 65=some (2,64):=by kernel_rfl
theorem ar72:rJ Tryz.prog 72=some (2,3):=by kernel_rfl
theorem Zi:Sx Tryz.prog 140=true:=by kernel_rfl
theorem by115:mW Tryz.prog 115=16:=by kernel_rfl
theorem by3:mW Tryz.prog 3=8:=by kernel_rfl
theorem by36:mW Tryz.prog 36=4:=by kernel_rfl
theorem by59:mW Tryz.prog 59=8:=by kernel_rfl
theorem cs115:Tryz.prog.cellsOf 115=2:=by kernel_rfl
theorem cs122:Tryz.prog.cellsOf 122=2:=by kernel_rfl
theorem cs126:Tryz.prog.cellsOf 126=4:=by kernel_rfl
theorem cs142:Tryz.prog.cellsOf 142=4:=by kernel_rfl
theorem cs148:Tryz.prog.cellsOf 148=2:=by kernel_rfl
theorem cs24:Tryz.prog.cellsOf 24=1:=by kernel_rfl
theorem cs26:Tryz.prog.cellsOf 26=2:=by kernel_rfl
theorem cs28:Tryz.prog.cellsOf 28=3:=by kernel_rfl
theorem cs3:Tryz.prog.cellsOf 3=1:=by kernel_rfl
theorem cs32:Tryz.prog.cellsOf 32=1:=by kernel_rfl
theorem cs36:Tryz.prog.cellsOf 36=1:=by kernel_rfl
theorem cs39:Tryz.prog.cellsOf 39=1:=by kernel_rfl
theorem cs59:Tryz.prog.cellsOf 59=1:=by kernel_rfl
theorem cs62:Tryz.prog.cellsOf 62=1:=by kernel_rfl
theorem cs64:Tryz.prog.cellsOf 64=2:=by kernel_rfl
theorem cs65:Tryz.prog.cellsOf 65=4:=by kernel_rfl
theorem cs71:Tryz.prog.cellsOf 71=2:=by kernel_rfl
theorem cs72:Tryz.prog.cellsOf 72=2:=by kernel_rfl
theorem cs84:Tryz.prog.cellsOf 84=2:=by kernel_rfl
theorem cs87:Tryz.prog.cellsOf 87=1:=by kernel_rfl
theorem cs94:Tryz.prog.cellsOf 94=1:=by kernel_rfl
theorem ex140 : Lb Tryz.prog 140 = some (Extern.MathFloor.toIntegral "math.archTrunc" .zero) := by kernel_rfl
theorem ex146:Lb Tryz.prog 146=some Extern.MathFloatBits.float64frombits:=by kernel_rfl
theorem ex92:Lb Tryz.prog 92=some Extern.MathFloatBits.float64bits:=by kernel_rfl
theorem tW:iG Tryz.prog 115 0=some (0,3):=by kernel_rfl
theorem tQ:iG Tryz.prog 115 1=some (1,3):=by kernel_rfl
theorem Rr:iG Tryz.prog 122 0=some (0,3):=by kernel_rfl
theorem aAS:iG Tryz.prog 122 1=some (1,3):=by kernel_rfl
theorem Kp:iG Tryz.prog 126 0=some (0,64):=by kernel_rfl
theorem Sf:iG Tryz.prog 126 1=some (2,3):=by kernel_rfl
theorem Tj:iG Tryz.prog 126 2=some (3,3):=by kernel_rfl
theorem Ku:iG Tryz.prog 142 0=some (0,126):=by kernel_rfl
theorem Rt:iG Tryz.prog 148 0=some (0,122):=by kernel_rfl
theorem tN:iG Tryz.prog 26 0=some (0,3):=by kernel_rfl
theorem Ar:iG Tryz.prog 26 1=some (1,24):=by kernel_rfl
theorem Zf:iG Tryz.prog 28 0=some (0,26):=by kernel_rfl
theorem Xg:iG Tryz.prog 28 1=some (2,3):=by kernel_rfl
theorem aCg:iG Tryz.prog 64 0=some (0,3):=by kernel_rfl
theorem Lm:iG Tryz.prog 64 1=some (1,62):=by kernel_rfl
theorem Yi:iG Tryz.prog 71 0=some (0,3):=by kernel_rfl
theorem Wa:iG Tryz.prog 71 1=some (1,3):=by kernel_rfl
theorem Qb:iG Tryz.prog 84 0=some (0,26):=by kernel_rfl
theorem ni24:mS Tryz.prog (some 24)=true:=by kernel_rfl
theorem ni32:mS Tryz.prog (some 32)=true:=by kernel_rfl
theorem ni62:mS Tryz.prog (some 62)=true:=by kernel_rfl
theorem ni90:mS Tryz.prog (some 90)=true:=by kernel_rfl
theorem ok115:okT Tryz.prog 115=true:=by kernel_rfl
theorem ok122:okT Tryz.prog 122=true:=by kernel_rfl
theorem ok126:okT Tryz.prog 126=true:=by kernel_rfl
theorem ok142:okT Tryz.prog 142=true:=by kernel_rfl
theorem ok148:okT Tryz.prog 148=true:=by kernel_rfl
theorem ok24:okT Tryz.prog 24=true:=by kernel_rfl
theorem ok26:okT Tryz.prog 26=true:=by kernel_rfl
theorem ok28:okT Tryz.prog 28=true:=by kernel_rfl
theorem ok3:okT Tryz.prog 3=true:=by kernel_rfl
theorem ok32:okT Tryz.prog 32=true:=by kernel_rfl
theorem ok36:okT Tryz.prog 36=true:=by kernel_rfl
theorem ok39:okT Tryz.prog 39=true:=by kernel_rfl
theorem ok59:okT Tryz.prog 59=true:=by kernel_rfl
theorem ok62:okT Tryz.prog 62=true:=by kernel_rfl
theorem ok64:okT Tryz.prog 64=true:=by kernel_rfl
theorem ok65:okT Tryz.prog 65=true:=by kernel_rfl
theorem ok71:okT Tryz.prog 71=true:=by kernel_rfl
theorem ok72:okT Tryz.prog 72=true:=by kernel_rfl
theorem ok84:okT Tryz.prog 84=true:=by kernel_rfl
theorem ok87:okT Tryz.prog 87=true:=by kernel_rfl
theorem ok94:okT Tryz.prog 94=true:=by kernel_rfl
theorem so131:bY Tryz.prog 131=some 87:=by kernel_rfl
theorem so162:bY Tryz.prog 162=some 39:=by kernel_rfl
theorem so24:bY Tryz.prog 24=some 3:=by kernel_rfl
theorem so32:bY Tryz.prog 32=some 59:=by kernel_rfl
theorem so54:bY Tryz.prog 54=some 72:=by kernel_rfl
theorem so61:bY Tryz.prog 61=some 32:=by kernel_rfl
theorem so62:bY Tryz.prog 62=some 36:=by kernel_rfl
theorem so65:bY Tryz.prog 65=none:=by kernel_rfl
theorem so72:bY Tryz.prog 72=none:=by kernel_rfl
theorem so90:bY Tryz.prog 90=some 115:=by kernel_rfl
theorem st115:mN Tryz.prog 115=some [(0,1),(1,1)]:=by kernel_rfl
theorem st122:mN Tryz.prog 122=some [(0,1),(1,1)]:=by kernel_rfl
theorem st126:mN Tryz.prog 126=some [(0,2),(2,1),(3,1)]:=by kernel_rfl
theorem st142:mN Tryz.prog 142=some [(0,4)]:=by kernel_rfl
theorem st148:mN Tryz.prog 148=some [(0,2)]:=by kernel_rfl
theorem st26:mN Tryz.prog 26=some [(0,1),(1,1)]:=by kernel_rfl
theorem st64:mN Tryz.prog 64=some [(0,1),(1,1)]:=by kernel_rfl
theorem st65:mN Tryz.prog 65=none:=by kernel_rfl
theorem st71:mN Tryz.prog 71=some [(0,1),(1,1)]:=by kernel_rfl
theorem st84:mN Tryz.prog 84=some [(0,2)]:=by kernel_rfl
theorem un105:Tryz.prog.underlying 105=some (.complex .f64):=by kernel_rfl
theorem un3:Tryz.prog.underlying 3=some (.int .i64):=by kernel_rfl
theorem un36:Tryz.prog.underlying 36=some (.float .f32):=by kernel_rfl
theorem un59:Tryz.prog.underlying 59=some (.complex .f32):=by kernel_rfl
theorem un81:Tryz.prog.underlying 81=some (.float .f64):=by kernel_rfl
theorem aV:IntKind.i64.wrap (0+1)=1:=by decide
theorem kZ:IntKind.i64.wrap (1+1)=2:=by decide
theorem sD:IntKind.i64.wrap (2+1)=3:=by decide
theorem Xz:IntKind.i64.wrap (2*0)=0:=by decide
theorem Zw:IntKind.i64.wrap (2*1)=2:=by decide
theorem Mq:IntKind.i64.wrap (3+1)=4:=by decide
theorem Wl:IntKind.i64.wrap (4+1)=5:=by decide
theorem zc115:fQ Tryz.prog 115=some [.int .i64 0,.int .i64 0]:=by kernel_rfl
theorem zc122:fQ Tryz.prog 122=some [.int .i64 0,.int .i64 0]:=by kernel_rfl
theorem zc126:fQ Tryz.prog 126=some [.int .i64 0,.slice none 0 0,.int .i64 0,.int .i64 0]:=by kernel_rfl
theorem zc142:fQ Tryz.prog 142=some [.int .i64 0,.slice none 0 0,.int .i64 0,.int .i64 0]:=by kernel_rfl
theorem zc148:fQ Tryz.prog 148=some [.int .i64 0,.int .i64 0]:=by kernel_rfl
theorem zc24:fQ Tryz.prog 24=some [.slice none 0 0]:=by kernel_rfl
theorem zc26:fQ Tryz.prog 26=some [.int .i64 0,.slice none 0 0]:=by kernel_rfl
theorem zc3:fQ Tryz.prog 3=some [.int .i64 0]:=by kernel_rfl
theorem zc32:fQ Tryz.prog 32=some [.slice none 0 0]:=by kernel_rfl
theorem zc36:fQ Tryz.prog 36=some [.float .f32 0]:=by kernel_rfl
theorem zc39:fQ Tryz.prog 39=some [.int .i64 0]:=by kernel_rfl
theorem zc59:fQ Tryz.prog 59=some [.complex .f32 0 0]:=by kernel_rfl
theorem zc64:fQ Tryz.prog 64=some [.int .i64 0,.slice none 0 0]:=by kernel_rfl
theorem zc65:fQ Tryz.prog 65=some [.int .i64 0,.slice none 0 0,.int .i64 0,.slice none 0 0]:=by kernel_rfl
theorem zc71:fQ Tryz.prog 71=some [.int .i64 0,.int .i64 0]:=by kernel_rfl
theorem zc84:fQ Tryz.prog 84=some [.int .i64 0,.slice none 0 0]:=by kernel_rfl
theorem zc87:fQ Tryz.prog 87=some [.nilFunc]:=by kernel_rfl
theorem zc94:fQ Tryz.prog 94=some [.nilFunc]:=by kernel_rfl
theorem aCz:aL Tryz.prog 9=true:=by kernel_rfl
theorem aBY:aL Tryz.prog 10=true:=by kernel_rfl
theorem Hw:aL Tryz.prog 11=true:=by kernel_rfl
theorem aB9:aL Tryz.prog 12=true:=by kernel_rfl
theorem Wx:aL Tryz.prog 13=true:=by kernel_rfl
theorem aBW:aL Tryz.prog 15=true:=by kernel_rfl
theorem aCm:aL Tryz.prog 16=true:=by kernel_rfl
theorem Fg:aL Tryz.prog 17=true:=by kernel_rfl
theorem aBP:aL Tryz.prog 22=true:=by kernel_rfl
theorem aCn:aL Tryz.prog 23=true:=by kernel_rfl
theorem Yx:aL Tryz.prog 24=true:=by kernel_rfl
theorem Qy:aL Tryz.prog 25=true:=by kernel_rfl
theorem aBy:aL Tryz.prog 26=true:=by kernel_rfl
theorem aBt:aL Tryz.prog 27=true:=by kernel_rfl
theorem Zn:aL Tryz.prog 28=true:=by kernel_rfl
theorem aBA:aL Tryz.prog 35=true:=by kernel_rfl
theorem aBC:aL Tryz.prog 36=true:=by kernel_rfl
theorem oG:aL Tryz.prog 37=true:=by kernel_rfl
theorem Hz:aL Tryz.prog 38=true:=by kernel_rfl
theorem Xu:aL Tryz.prog 39=true:=by kernel_rfl
theorem Xr:aL Tryz.prog 40=true:=by kernel_rfl
theorem aBo:aL Tryz.prog 41=true:=by kernel_rfl
theorem Qw:aL Tryz.prog 42=true:=by kernel_rfl
theorem Aw:aL Tryz.prog 43=true:=by kernel_rfl
theorem Wd:aL Tryz.prog 44=true:=by kernel_rfl
theorem Jf:aL Tryz.prog 45=true:=by kernel_rfl
theorem Ze:aL Tryz.prog 46=true:=by kernel_rfl
theorem aCi:aL Tryz.prog 47=true:=by kernel_rfl
theorem aB0:aL Tryz.prog 48=true:=by kernel_rfl
theorem Kk:aL Tryz.prog 49=true:=by kernel_rfl
theorem aCb:aL Tryz.prog 50=true:=by kernel_rfl
theorem aBJ:aL Tryz.prog 51=true:=by kernel_rfl
theorem iU:aL Tryz.prog 52=true:=by kernel_rfl
theorem aBm:aL Tryz.prog 53=true:=by kernel_rfl
theorem aBr:aL Tryz.prog 54=true:=by kernel_rfl
theorem aCp:aL Tryz.prog 55=true:=by kernel_rfl
theorem Yf:aL Tryz.prog 56=true:=by kernel_rfl
theorem aCe:aL Tryz.prog 64=true:=by kernel_rfl
theorem aBn:aL Tryz.prog 67=true:=by kernel_rfl
theorem Ef:aL Tryz.prog 68=true:=by kernel_rfl
theorem aB1:aL Tryz.prog 69=true:=by kernel_rfl
theorem Lg:aL Tryz.prog 70=true:=by kernel_rfl
theorem Rg:aL Tryz.prog 71=true:=by kernel_rfl
theorem Xi:aL Tryz.prog 72=true:=by kernel_rfl
theorem aCf:aL Tryz.prog 73=true:=by kernel_rfl
theorem Yp:aL Tryz.prog 74=true:=by kernel_rfl
theorem aBz:aL Tryz.prog 75=true:=by kernel_rfl
theorem aBT:aL Tryz.prog 76=true:=by kernel_rfl
theorem aBQ:aL Tryz.prog 77=true:=by kernel_rfl
theorem aBx:aL Tryz.prog 79=true:=by kernel_rfl
theorem aAa:aL Tryz.prog 82=true:=by kernel_rfl
theorem Hu:aL Tryz.prog 83=true:=by kernel_rfl
theorem aBw:aL Tryz.prog 84=true:=by kernel_rfl
theorem aBl:aL Tryz.prog 85=true:=by kernel_rfl
theorem aBZ:aL Tryz.prog 86=true:=by kernel_rfl
theorem Xa:aL Tryz.prog 87=true:=by kernel_rfl
theorem Yq:aL Tryz.prog 88=true:=by kernel_rfl
theorem aBL:aL Tryz.prog 89=true:=by kernel_rfl
theorem Xx:aL Tryz.prog 90=true:=by kernel_rfl
theorem mA:aL Tryz.prog 91=true:=by kernel_rfl
theorem yN:aL Tryz.prog 103=true:=by kernel_rfl
theorem aAr:aL Tryz.prog 104=true:=by kernel_rfl
theorem Se:aL Tryz.prog 105=true:=by kernel_rfl
theorem aAl:aL Tryz.prog 106=true:=by kernel_rfl
theorem vV:aL Tryz.prog 107=true:=by kernel_rfl
theorem aAn:aL Tryz.prog 108=true:=by kernel_rfl
theorem aAH:aL Tryz.prog 109=true:=by kernel_rfl
theorem So:aL Tryz.prog 110=true:=by kernel_rfl
theorem Sl:aL Tryz.prog 111=true:=by kernel_rfl
theorem aAV:aL Tryz.prog 112=true:=by kernel_rfl
theorem To:aL Tryz.prog 113=true:=by kernel_rfl
theorem aAo:aL Tryz.prog 114=true:=by kernel_rfl
theorem aA6:aL Tryz.prog 118=true:=by kernel_rfl
theorem Rv:aL Tryz.prog 119=true:=by kernel_rfl
theorem Cq:aL Tryz.prog 120=true:=by kernel_rfl
theorem aA2:aL Tryz.prog 121=true:=by kernel_rfl
theorem aAu:aL Tryz.prog 122=true:=by kernel_rfl
theorem aAU:aL Tryz.prog 127=true:=by kernel_rfl
theorem zC:aL Tryz.prog 128=true:=by kernel_rfl
theorem aAq:aL Tryz.prog 129=true:=by kernel_rfl
theorem Ht:aL Tryz.prog 130=true:=by kernel_rfl
theorem Rp:aL Tryz.prog 131=true:=by kernel_rfl
theorem Rx:aL Tryz.prog 132=true:=by kernel_rfl
theorem Tf:aL Tryz.prog 134=true:=by kernel_rfl
theorem Sa:aL Tryz.prog 135=true:=by kernel_rfl
theorem aAN:aL Tryz.prog 136=true:=by kernel_rfl
theorem aA1:aL Tryz.prog 137=true:=by kernel_rfl
theorem aAw:aL Tryz.prog 138=true:=by kernel_rfl
theorem tX:aL Tryz.prog 139=true:=by kernel_rfl
theorem aAz:aL Tryz.prog 142=true:=by kernel_rfl
theorem aAX:aL Tryz.prog 143=true:=by kernel_rfl
theorem aBa:aL Tryz.prog 144=true:=by kernel_rfl
theorem aA3:aL Tryz.prog 147=true:=by kernel_rfl
def zn:=And.intro Bool.not_true Bool.not_false
def zp.{u}:=@List.getElem?_toArray.{u}
def zs.{u,v}:=@Option.bind_some.{u,v}
def zl.{u}:=@List.toList_toArray.{u}
end Go.Rex
