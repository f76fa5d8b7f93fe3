/- Facts on types and functions of the program. -/
import Derived.Test.YtbodidihhbejmaaGreatS
import Derived.Test.YtbodidihhbejmaaGreatRexG11
import Derived.Test.YtbodidihhbejmaaGreatProg
set_option linter.unusedSimpArgs false
set_option linter.unusedVariables false
set_option linter.defProp false
namespace Go.Rex
open Go.Proofs
open Go Go.Rex Go.RowKit
set_option maxRecDepth 100000
theorem ag101:pE Tryz.prog 101=some true:=by kernel_rfl
theorem ag108:pE Tryz.prog 108=some true:=by kernel_rfl
theorem ag117:pE Tryz.prog 117=some false:=by kernel_rfl
theorem ag24:pE Tryz.prog 24=some false:=by kernel_rfl
theorem ag26:pE Tryz.prog 26=some true:=by kernel_rfl
theorem ag28:pE Tryz.prog 28=some true:=by kernel_rfl
theorem ag3:pE Tryz.prog 3=some false:=by kernel_rfl
theorem ag31:pE Tryz.prog 31=some false:=by kernel_rfl
theorem ag32:pE Tryz.prog 32=some false:=by kernel_rfl
theorem ag4:pE Tryz.prog 4=some false:=by kernel_rfl
theorem ag44:pE Tryz.prog 44=some false:=by kernel_rfl
theorem ag50:pE Tryz.prog 50=some true:=by kernel_rfl
theorem ag67:pE Tryz.prog 67=some true:=by kernel_rfl
theorem ag70:pE Tryz.prog 70=some false:=by kernel_rfl
theorem ag75:pE Tryz.prog 75=some false:=by kernel_rfl
theorem ag77:pE Tryz.prog 77=some false:=by kernel_rfl
theorem ag84:pE Tryz.prog 84=some false:=by kernel_rfl
theorem ag88:pE Tryz.prog 88=some true:=by kernel_rfl
theorem ar45:oZ Tryz.prog 45=some (2,44):=by kernel_rfl
theorem ar88:oZ Tryz.prog 88=some (2,3):=by kernel_rfl
theorem Yh:Ue Tryz.prog 130=true:=by kernel_rfl
theorem by108:mE Tryz.prog 108=16:=by kernel_rfl
theorem by3:mE Tryz.prog 3=8:=by kernel_rfl
theorem by84:mE Tryz.prog 84=8:=by kernel_rfl
theorem by88:mE Tryz.prog 88=16:=by kernel_rfl
theorem cs101:Tryz.prog.cellsOf 101=3:=by kernel_rfl
theorem cs108:Tryz.prog.cellsOf 108=2:=by kernel_rfl
theorem cs24:Tryz.prog.cellsOf 24=1:=by kernel_rfl
theorem cs26:Tryz.prog.cellsOf 26=2:=by kernel_rfl
theorem cs28:Tryz.prog.cellsOf 28=3:=by kernel_rfl
theorem cs3:Tryz.prog.cellsOf 3=1:=by kernel_rfl
theorem cs44:Tryz.prog.cellsOf 44=1:=by kernel_rfl
theorem cs45:Tryz.prog.cellsOf 45=2:=by kernel_rfl
theorem cs50:Tryz.prog.cellsOf 50=3:=by kernel_rfl
theorem cs67:Tryz.prog.cellsOf 67=2:=by kernel_rfl
theorem cs70:Tryz.prog.cellsOf 70=1:=by kernel_rfl
theorem cs75:Tryz.prog.cellsOf 75=1:=by kernel_rfl
theorem cs84:Tryz.prog.cellsOf 84=1:=by kernel_rfl
theorem cs88:Tryz.prog.cellsOf 88=2:=by kernel_rfl
theorem ex130 : Nf Tryz.prog 130 = some (Extern.MathFloor.toIntegral "math.archTrunc" .zero) := by kernel_rfl
theorem ex134:Nf Tryz.prog 134=some Extern.MathFloatBits.float64frombits:=by kernel_rfl
theorem ex94:Nf Tryz.prog 94=some Extern.MathFloatBits.float64bits:=by kernel_rfl
theorem qS:mG Tryz.prog 101 0=some (0,50):=by kernel_rfl
theorem Ld:mG Tryz.prog 108 0=some (0,3):=by kernel_rfl
theorem Mi:mG Tryz.prog 108 1=some (1,3):=by kernel_rfl
theorem vW:mG Tryz.prog 26 0=some (0,3):=by kernel_rfl
theorem Br:mG Tryz.prog 26 1=some (1,24):=by kernel_rfl
theorem Md:mG Tryz.prog 28 0=some (0,26):=by kernel_rfl
theorem Zs:mG Tryz.prog 28 1=some (2,3):=by kernel_rfl
theorem qE:mG Tryz.prog 50 0=some (0,3):=by kernel_rfl
theorem zB:mG Tryz.prog 50 1=some (1,3):=by kernel_rfl
theorem rG:mG Tryz.prog 50 2=some (2,3):=by kernel_rfl
theorem Sw:mG Tryz.prog 67 0=some (0,26):=by kernel_rfl
theorem ni24:mF Tryz.prog (some 24)=true:=by kernel_rfl
theorem ni31:mF Tryz.prog (some 31)=true:=by kernel_rfl
theorem ni77:mF Tryz.prog (some 77)=true:=by kernel_rfl
theorem ni86:mF Tryz.prog (some 86)=true:=by kernel_rfl
theorem ok101:okT Tryz.prog 101=true:=by kernel_rfl
theorem ok108:okT Tryz.prog 108=true:=by kernel_rfl
theorem ok24:okT Tryz.prog 24=true:=by kernel_rfl
theorem ok26:okT Tryz.prog 26=true:=by kernel_rfl
theorem ok28:okT Tryz.prog 28=true:=by kernel_rfl
theorem ok3:okT Tryz.prog 3=true:=by kernel_rfl
theorem ok44:okT Tryz.prog 44=true:=by kernel_rfl
theorem ok45:okT Tryz.prog 45=true:=by kernel_rfl
theorem ok50:okT Tryz.prog 50=true:=by kernel_rfl
theorem ok67:okT Tryz.prog 67=true:=by kernel_rfl
theorem ok70:okT Tryz.prog 70=true:=by kernel_rfl
theorem ok75:okT Tryz.prog 75=true:=by kernel_rfl
theorem ok84:okT Tryz.prog 84=true:=by kernel_rfl
theorem ok88:okT Tryz.prog 88=true:=by kernel_rfl
theorem so114:dW Tryz.prog 114=some 70:=by kernel_rfl
theorem so23:dW Tryz.prog 23=some 45:=by kernel_rfl
theorem so24:dW Tryz.prog 24=some 3:=by kernel_rfl
theorem so31:dW Tryz.prog 31=some 84:=by kernel_rfl
theorem so45:dW Tryz.prog 45=none:=by kernel_rfl
theorem so77:dW Tryz.prog 77=some 108:=by kernel_rfl
theorem so86:dW Tryz.prog 86=some 88:=by kernel_rfl
theorem so88:dW Tryz.prog 88=none:=by kernel_rfl
theorem st101:qU Tryz.prog 101=some [(0,3)]:=by kernel_rfl
theorem st108:qU Tryz.prog 108=some [(0,1),(1,1)]:=by kernel_rfl
theorem st26:qU Tryz.prog 26=some [(0,1),(1,1)]:=by kernel_rfl
theorem st50:qU Tryz.prog 50=some [(0,1),(1,1),(2,1)]:=by kernel_rfl
theorem st67:qU Tryz.prog 67=some [(0,2)]:=by kernel_rfl
theorem st88:qU Tryz.prog 88=none:=by kernel_rfl
theorem un3:Tryz.prog.underlying 3=some (.int .i64):=by kernel_rfl
theorem un44:Tryz.prog.underlying 44=some (.float .f32):=by kernel_rfl
theorem un84:Tryz.prog.underlying 84=some (.complex .f32):=by kernel_rfl
theorem un94:Tryz.prog.underlying 94=some (.complex .f64):=by kernel_rfl
theorem un95:Tryz.prog.underlying 95=some (.float .f64):=by kernel_rfl
theorem bD:IntKind.i64.wrap (0+1)=1:=by decide
theorem Yd:IntKind.i64.wrap (0*0)=0:=by decide
theorem aCK:IntKind.i64.wrap (0-0)=0:=by decide
theorem mS:IntKind.i64.wrap (1+1)=2:=by decide
theorem pP:IntKind.i64.wrap (2+1)=3:=by decide
theorem Zz:IntKind.i64.wrap (2*0)=0:=by decide
theorem Xv:IntKind.i64.wrap (2*1)=2:=by decide
theorem Qz:IntKind.i64.wrap (2*2)=4:=by decide
theorem Hg:IntKind.i64.wrap (3+1)=4:=by decide
theorem Ph:IntKind.i64.wrap (4+1)=5:=by decide
theorem Qh:IntKind.i64.wrap (5+1)=6:=by decide
theorem zc101:iY Tryz.prog 101=some [.int .i64 0,.int .i64 0,.int .i64 0]:=by kernel_rfl
theorem zc108:iY Tryz.prog 108=some [.int .i64 0,.int .i64 0]:=by kernel_rfl
theorem zc24:iY Tryz.prog 24=some [.slice none 0 0]:=by kernel_rfl
theorem zc26:iY Tryz.prog 26=some [.int .i64 0,.slice none 0 0]:=by kernel_rfl
theorem zc28:iY Tryz.prog 28=some [.int .i64 0,.slice none 0 0,.int .i64 0]:=by kernel_rfl
theorem zc3:iY Tryz.prog 3=some [.int .i64 0]:=by kernel_rfl
theorem zc50:iY Tryz.prog 50=some [.int .i64 0,.int .i64 0,.int .i64 0]:=by kernel_rfl
theorem zc67:iY Tryz.prog 67=some [.int .i64 0,.slice none 0 0]:=by kernel_rfl
theorem zc70:iY Tryz.prog 70=some [.nilFunc]:=by kernel_rfl
theorem zc75:iY Tryz.prog 75=some [.nilFunc]:=by kernel_rfl
theorem zc84:iY Tryz.prog 84=some [.complex .f32 0 0]:=by kernel_rfl
theorem zc88:iY Tryz.prog 88=some [.int .i64 0,.int .i64 0]:=by kernel_rfl
theorem aCZ:aM Tryz.prog 6=true:=by kernel_rfl
theorem aCM:aM Tryz.prog 7=true:=by kernel_rfl
theorem aDl:aM Tryz.prog 8=true:=by kernel_rfl
theorem aBh:aM Tryz.prog 9=true:=by kernel_rfl
theorem aBw:aM Tryz.prog 10=true:=by kernel_rfl
theorem aC9:aM Tryz.prog 11=true:=by kernel_rfl
theorem aBt:aM Tryz.prog 12=true:=by kernel_rfl
theorem aCm:aM Tryz.prog 13=true:=by kernel_rfl
theorem aCp:aM Tryz.prog 14=true:=by kernel_rfl
theorem aCv:aM Tryz.prog 15=true:=by kernel_rfl
theorem Lq:aM Tryz.prog 16=true:=by kernel_rfl
theorem aDg:aM Tryz.prog 17=true:=by kernel_rfl
theorem aC5:aM Tryz.prog 18=true:=by kernel_rfl
theorem Bz:aM Tryz.prog 19=true:=by kernel_rfl
theorem aDf:aM Tryz.prog 20=true:=by kernel_rfl
theorem aCA:aM Tryz.prog 21=true:=by kernel_rfl
theorem aBq:aM Tryz.prog 22=true:=by kernel_rfl
theorem aCu:aM Tryz.prog 23=true:=by kernel_rfl
theorem aBB:aM Tryz.prog 24=true:=by kernel_rfl
theorem rD:aM Tryz.prog 30=true:=by kernel_rfl
theorem aBF:aM Tryz.prog 31=true:=by kernel_rfl
theorem aBJ:aM Tryz.prog 32=true:=by kernel_rfl
theorem aBL:aM Tryz.prog 33=true:=by kernel_rfl
theorem aB7:aM Tryz.prog 34=true:=by kernel_rfl
theorem aC6:aM Tryz.prog 35=true:=by kernel_rfl
theorem gZ:aM Tryz.prog 36=true:=by kernel_rfl
theorem Fq:aM Tryz.prog 37=true:=by kernel_rfl
theorem aDd:aM Tryz.prog 38=true:=by kernel_rfl
theorem aDh:aM Tryz.prog 39=true:=by kernel_rfl
theorem aCq:aM Tryz.prog 40=true:=by kernel_rfl
theorem aDc:aM Tryz.prog 41=true:=by kernel_rfl
theorem aDa:aM Tryz.prog 42=true:=by kernel_rfl
theorem aBY:aM Tryz.prog 43=true:=by kernel_rfl
theorem aBV:aM Tryz.prog 44=true:=by kernel_rfl
theorem Yu:aM Tryz.prog 45=true:=by kernel_rfl
theorem aDi:aM Tryz.prog 46=true:=by kernel_rfl
theorem aC4:aM Tryz.prog 47=true:=by kernel_rfl
theorem aCj:aM Tryz.prog 48=true:=by kernel_rfl
theorem aCh:aM Tryz.prog 49=true:=by kernel_rfl
theorem aC7:aM Tryz.prog 50=true:=by kernel_rfl
theorem aB8:aM Tryz.prog 51=true:=by kernel_rfl
theorem aCn:aM Tryz.prog 52=true:=by kernel_rfl
theorem Xg:aM Tryz.prog 53=true:=by kernel_rfl
theorem aCa:aM Tryz.prog 54=true:=by kernel_rfl
theorem aB3:aM Tryz.prog 55=true:=by kernel_rfl
theorem aDb:aM Tryz.prog 56=true:=by kernel_rfl
theorem aC3:aM Tryz.prog 57=true:=by kernel_rfl
theorem By:aM Tryz.prog 58=true:=by kernel_rfl
theorem aBU:aM Tryz.prog 59=true:=by kernel_rfl
theorem aCx:aM Tryz.prog 60=true:=by kernel_rfl
theorem aDe:aM Tryz.prog 61=true:=by kernel_rfl
theorem aCB:aM Tryz.prog 62=true:=by kernel_rfl
theorem aB0:aM Tryz.prog 63=true:=by kernel_rfl
theorem aCb:aM Tryz.prog 64=true:=by kernel_rfl
theorem aBQ:aM Tryz.prog 65=true:=by kernel_rfl
theorem Tc:aM Tryz.prog 66=true:=by kernel_rfl
theorem aCy:aM Tryz.prog 67=true:=by kernel_rfl
theorem aB1:aM Tryz.prog 68=true:=by kernel_rfl
theorem Yi:aM Tryz.prog 69=true:=by kernel_rfl
theorem Ta:aM Tryz.prog 70=true:=by kernel_rfl
theorem Zw:aM Tryz.prog 71=true:=by kernel_rfl
theorem Lg:aM Tryz.prog 72=true:=by kernel_rfl
theorem Xo:aM Tryz.prog 73=true:=by kernel_rfl
theorem aBH:aM Tryz.prog 74=true:=by kernel_rfl
theorem aBR:aM Tryz.prog 76=true:=by kernel_rfl
theorem aB5:aM Tryz.prog 79=true:=by kernel_rfl
theorem Tg:aM Tryz.prog 80=true:=by kernel_rfl
theorem aBG:aM Tryz.prog 81=true:=by kernel_rfl
theorem aCe:aM Tryz.prog 82=true:=by kernel_rfl
theorem aCf:aM Tryz.prog 83=true:=by kernel_rfl
theorem aCz:aM Tryz.prog 84=true:=by kernel_rfl
theorem kF:aM Tryz.prog 85=true:=by kernel_rfl
theorem aDj:aM Tryz.prog 86=true:=by kernel_rfl
theorem aDk:aM Tryz.prog 87=true:=by kernel_rfl
theorem aC2:aM Tryz.prog 88=true:=by kernel_rfl
theorem aBZ:aM Tryz.prog 89=true:=by kernel_rfl
theorem aBs:aM Tryz.prog 90=true:=by kernel_rfl
theorem aBM:aM Tryz.prog 91=true:=by kernel_rfl
theorem Zd:aM Tryz.prog 92=true:=by kernel_rfl
theorem aCs:aM Tryz.prog 93=true:=by kernel_rfl
theorem Yw:aM Tryz.prog 95=true:=by kernel_rfl
theorem aBu:aM Tryz.prog 96=true:=by kernel_rfl
theorem aB4:aM Tryz.prog 97=true:=by kernel_rfl
theorem Lu:aM Tryz.prog 98=true:=by kernel_rfl
theorem aCg:aM Tryz.prog 99=true:=by kernel_rfl
theorem aA3:aM Tryz.prog 100=true:=by kernel_rfl
theorem aA5:aM Tryz.prog 101=true:=by kernel_rfl
theorem qP:aM Tryz.prog 102=true:=by kernel_rfl
theorem aAW:aM Tryz.prog 103=true:=by kernel_rfl
theorem aAR:aM Tryz.prog 104=true:=by kernel_rfl
theorem aAA:aM Tryz.prog 105=true:=by kernel_rfl
theorem Vi:aM Tryz.prog 106=true:=by kernel_rfl
theorem Uk:aM Tryz.prog 107=true:=by kernel_rfl
theorem aAT:aM Tryz.prog 108=true:=by kernel_rfl
theorem Mz:aM Tryz.prog 112=true:=by kernel_rfl
theorem Ts:aM Tryz.prog 113=true:=by kernel_rfl
theorem Ep:aM Tryz.prog 114=true:=by kernel_rfl
theorem aAG:aM Tryz.prog 115=true:=by kernel_rfl
theorem aAU:aM Tryz.prog 116=true:=by kernel_rfl
theorem Ua:aM Tryz.prog 117=true:=by kernel_rfl
theorem Ug:aM Tryz.prog 118=true:=by kernel_rfl
theorem aAD:aM Tryz.prog 119=true:=by kernel_rfl
theorem aAz:aM Tryz.prog 120=true:=by kernel_rfl
theorem aAH:aM Tryz.prog 121=true:=by kernel_rfl
theorem Nr:aM Tryz.prog 122=true:=by kernel_rfl
theorem Us:aM Tryz.prog 123=true:=by kernel_rfl
theorem Vb:aM Tryz.prog 124=true:=by kernel_rfl
theorem aAV:aM Tryz.prog 126=true:=by kernel_rfl
theorem aAZ:aM Tryz.prog 127=true:=by kernel_rfl
theorem aA6:aM Tryz.prog 128=true:=by kernel_rfl
theorem aAw:aM Tryz.prog 129=true:=by kernel_rfl
theorem aA8:aM Tryz.prog 132=true:=by kernel_rfl
def zn:=And.intro Bool.not_true Bool.not_false
def zp.{u}:=@List.getElem?_toArray.{u}
def zs.{u,v}:=@Option.bind_some.{u,v}
def zl.{u}:=@List.toList_toArray.{u}
end Go.Rex
