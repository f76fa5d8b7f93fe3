/- Facts on types and functions of the program. -/
import Derived.Test.YtplnankdicpenaaS
import Derived.Test.YtplnankdicpenaaRexG11
import Derived.Test.YtplnankdicpenaaProg
set_option linter.unusedSimpArgs false
set_option linter.unusedVariables false
set_option linter.defProp false
namespace Go.Rex
open Go.Proofs
open Go Go.Rex Go.RowKit
set_option maxRecDepth 100000
theorem ag102:mL Try.prog 102=some false:=by kernel_rfl
theorem ag23:mL Try.prog 23=some false:=by kernel_rfl
theorem ag25:mL Try.prog 25=some true:=by kernel_rfl
theorem ag27:mL Try.prog 27=some true:=by kernel_rfl
theorem ag3:mL Try.prog 3=some false:=by kernel_rfl
theorem ag32:mL Try.prog 32=some false:=by kernel_rfl
theorem ag36:mL Try.prog 36=some true:=by kernel_rfl
theorem ag37:mL Try.prog 37=some false:=by kernel_rfl
theorem ag4:mL Try.prog 4=some false:=by kernel_rfl
theorem ag60:mL Try.prog 60=some false:=by kernel_rfl
theorem ag64:mL Try.prog 64=some false:=by kernel_rfl
theorem ag69:mL Try.prog 69=some true:=by kernel_rfl
theorem ag72:mL Try.prog 72=some true:=by kernel_rfl
theorem ag77:mL Try.prog 77=some false:=by kernel_rfl
theorem ag79:mL Try.prog 79=some false:=by kernel_rfl
theorem ag91:mL Try.prog 91=some true:=by kernel_rfl
theorem ar48:pB Try.prog 48=some (2,3):=by kernel_rfl
theorem ar95:pB Try.prog 95=some (4,60):=by kernel_rfl
theorem Wa:Ro Try.prog 106=true:=by kernel_rfl
theorem by3:mG Try.prog 3=8:=by kernel_rfl
theorem by60:mG Try.prog 60=8:=by kernel_rfl
theorem by91:mG Try.prog 91=16:=by kernel_rfl
theorem cs23:Try.prog.cellsOf 23=1:=by kernel_rfl
theorem cs25:Try.prog.cellsOf 25=2:=by kernel_rfl
theorem cs27:Try.prog.cellsOf 27=3:=by kernel_rfl
theorem cs3:Try.prog.cellsOf 3=1:=by kernel_rfl
theorem cs36:Try.prog.cellsOf 36=3:=by kernel_rfl
theorem cs48:Try.prog.cellsOf 48=2:=by kernel_rfl
theorem cs60:Try.prog.cellsOf 60=1:=by kernel_rfl
theorem cs64:Try.prog.cellsOf 64=1:=by kernel_rfl
theorem cs69:Try.prog.cellsOf 69=3:=by kernel_rfl
theorem cs72:Try.prog.cellsOf 72=2:=by kernel_rfl
theorem cs77:Try.prog.cellsOf 77=1:=by kernel_rfl
theorem cs91:Try.prog.cellsOf 91=2:=by kernel_rfl
theorem cs95:Try.prog.cellsOf 95=4:=by kernel_rfl
theorem eqg91:Program.eqGuardType Try.prog Try.prog.depth 91=false:=by kernel_rfl
theorem eqs91{a0 a1 b0 b1:Int}:prun Try.prog (Op.equal 91 (.agg ⟨[.int .i64 a0,.int .i64 a1]⟩) (.agg ⟨[.int .i64 b0,.int .i64 b1]⟩))=some ([a0==b0,a1==b1].all id):=aBx (Sm Try.underlying91 (by kernel_rfl) (EqF.cons (by decide) (uT (by kernel_rfl) rfl) (uT (by kernel_rfl) rfl) (Yj (by kernel_rfl)) (EqF.cons (by decide) (uT (by kernel_rfl) rfl) (uT (by kernel_rfl) rfl) (Yj (by kernel_rfl)) EqF.nil)))
theorem ex106 : Hf Try.prog 106 = some (Extern.MathFloor.toIntegral "math.archTrunc" .zero) := by kernel_rfl
theorem ex110:Hf Try.prog 110=some Extern.MathFloatBits.float64frombits:=by kernel_rfl
theorem ex84:Hf Try.prog 84=some Extern.MathFloatBits.float64bits:=by kernel_rfl
theorem sL:lY Try.prog 25 0=some (0,3):=by kernel_rfl
theorem zV:lY Try.prog 25 1=some (1,23):=by kernel_rfl
theorem Xh:lY Try.prog 27 0=some (0,25):=by kernel_rfl
theorem Wo:lY Try.prog 27 1=some (2,3):=by kernel_rfl
theorem aCb:lY Try.prog 36 0=some (0,3):=by kernel_rfl
theorem aCh:lY Try.prog 36 1=some (1,3):=by kernel_rfl
theorem aB9:lY Try.prog 36 2=some (2,3):=by kernel_rfl
theorem aCk:lY Try.prog 69 0=some (0,36):=by kernel_rfl
theorem Ny:lY Try.prog 72 0=some (0,25):=by kernel_rfl
theorem tJ:lY Try.prog 91 0=some (0,3):=by kernel_rfl
theorem tY:lY Try.prog 91 1=some (1,3):=by kernel_rfl
theorem ni23:mJ Try.prog (some 23)=true:=by kernel_rfl
theorem ni32:mJ Try.prog (some 32)=true:=by kernel_rfl
theorem ni79:mJ Try.prog (some 79)=true:=by kernel_rfl
theorem ok23:okT Try.prog 23=true:=by kernel_rfl
theorem ok25:okT Try.prog 25=true:=by kernel_rfl
theorem ok27:okT Try.prog 27=true:=by kernel_rfl
theorem ok3:okT Try.prog 3=true:=by kernel_rfl
theorem ok36:okT Try.prog 36=true:=by kernel_rfl
theorem ok48:okT Try.prog 48=true:=by kernel_rfl
theorem ok60:okT Try.prog 60=true:=by kernel_rfl
theorem ok64:okT Try.prog 64=true:=by kernel_rfl
theorem ok69:okT Try.prog 69=true:=by kernel_rfl
theorem ok72:okT Try.prog 72=true:=by kernel_rfl
theorem ok77:okT Try.prog 77=true:=by kernel_rfl
theorem ok91:okT Try.prog 91=true:=by kernel_rfl
theorem ok95:okT Try.prog 95=true:=by kernel_rfl
theorem so22:cF Try.prog 22=some 48:=by kernel_rfl
theorem so23:cF Try.prog 23=some 3:=by kernel_rfl
theorem so32:cF Try.prog 32=some 60:=by kernel_rfl
theorem so48:cF Try.prog 48=none:=by kernel_rfl
theorem so79:cF Try.prog 79=some 91:=by kernel_rfl
theorem so95:cF Try.prog 95=none:=by kernel_rfl
theorem so99:cF Try.prog 99=some 64:=by kernel_rfl
theorem st25:qK Try.prog 25=some [(0,1),(1,1)]:=by kernel_rfl
theorem st36:qK Try.prog 36=some [(0,1),(1,1),(2,1)]:=by kernel_rfl
theorem st69:qK Try.prog 69=some [(0,3)]:=by kernel_rfl
theorem st72:qK Try.prog 72=some [(0,2)]:=by kernel_rfl
theorem st91:qK Try.prog 91=some [(0,1),(1,1)]:=by kernel_rfl
theorem st95:qK Try.prog 95=none:=by kernel_rfl
theorem un111:Try.prog.underlying 111=some (.float .f64):=by kernel_rfl
theorem un3:Try.prog.underlying 3=some (.int .i64):=by kernel_rfl
theorem un53:Try.prog.underlying 53=some (.float .f32):=by kernel_rfl
theorem un60:Try.prog.underlying 60=some (.complex .f32):=by kernel_rfl
theorem un94:Try.prog.underlying 94=some (.complex .f64):=by kernel_rfl
theorem Vq:IntKind.i64.wrap (0+0)=0:=by decide
theorem bP:IntKind.i64.wrap (0+1)=1:=by decide
theorem aBZ:IntKind.i64.wrap (0*0)=0:=by decide
theorem mX:IntKind.i64.wrap (1+1)=2:=by decide
theorem rX:IntKind.i64.wrap (2+1)=3:=by decide
theorem Vv:IntKind.i64.wrap (2*0)=0:=by decide
theorem Vn:IntKind.i64.wrap (2*1)=2:=by decide
theorem aB0:IntKind.i64.wrap (2*2)=4:=by decide
theorem Ld:IntKind.i64.wrap (3+1)=4:=by decide
theorem Xu:IntKind.i64.wrap (4+1)=5:=by decide
theorem aBQ:IntKind.i64.wrap (5+1)=6:=by decide
theorem zc23:iU Try.prog 23=some [.slice none 0 0]:=by kernel_rfl
theorem zc25:iU Try.prog 25=some [.int .i64 0,.slice none 0 0]:=by kernel_rfl
theorem zc27:iU Try.prog 27=some [.int .i64 0,.slice none 0 0,.int .i64 0]:=by kernel_rfl
theorem zc3:iU Try.prog 3=some [.int .i64 0]:=by kernel_rfl
theorem zc36:iU Try.prog 36=some [.int .i64 0,.int .i64 0,.int .i64 0]:=by kernel_rfl
theorem zc60:iU Try.prog 60=some [.complex .f32 0 0]:=by kernel_rfl
theorem zc64:iU Try.prog 64=some [.nilFunc]:=by kernel_rfl
theorem zc69:iU Try.prog 69=some [.int .i64 0,.int .i64 0,.int .i64 0]:=by kernel_rfl
theorem zc72:iU Try.prog 72=some [.int .i64 0,.slice none 0 0]:=by kernel_rfl
theorem zc77:iU Try.prog 77=some [.nilFunc]:=by kernel_rfl
theorem zc91:iU Try.prog 91=some [.int .i64 0,.int .i64 0]:=by kernel_rfl
theorem zc95:iU Try.prog 95=some [.complex .f32 0 0,.complex .f32 0 0,.complex .f32 0 0,.complex .f32 0 0]:=by kernel_rfl
theorem aB1:aP Try.prog 5=true:=by kernel_rfl
theorem aB3:aP Try.prog 6=true:=by kernel_rfl
theorem Yl:aP Try.prog 7=true:=by kernel_rfl
theorem Et:aP Try.prog 8=true:=by kernel_rfl
theorem aBJ:aP Try.prog 9=true:=by kernel_rfl
theorem aB8:aP Try.prog 10=true:=by kernel_rfl
theorem aAZ:aP Try.prog 11=true:=by kernel_rfl
theorem Ps:aP Try.prog 12=true:=by kernel_rfl
theorem Yn:aP Try.prog 13=true:=by kernel_rfl
theorem aCz:aP Try.prog 14=true:=by kernel_rfl
theorem aCy:aP Try.prog 15=true:=by kernel_rfl
theorem aAL:aP Try.prog 16=true:=by kernel_rfl
theorem Uu:aP Try.prog 17=true:=by kernel_rfl
theorem aBi:aP Try.prog 18=true:=by kernel_rfl
theorem aA2:aP Try.prog 19=true:=by kernel_rfl
theorem aAE:aP Try.prog 20=true:=by kernel_rfl
theorem aAM:aP Try.prog 23=true:=by kernel_rfl
theorem aAP:aP Try.prog 24=true:=by kernel_rfl
theorem aAw:aP Try.prog 25=true:=by kernel_rfl
theorem nJ:aP Try.prog 26=true:=by kernel_rfl
theorem Ee:aP Try.prog 27=true:=by kernel_rfl
theorem aAD:aP Try.prog 28=true:=by kernel_rfl
theorem aCa:aP Try.prog 29=true:=by kernel_rfl
theorem aCn:aP Try.prog 30=true:=by kernel_rfl
theorem yZ:aP Try.prog 31=true:=by kernel_rfl
theorem Xe:aP Try.prog 32=true:=by kernel_rfl
theorem Xs:aP Try.prog 33=true:=by kernel_rfl
theorem aBd:aP Try.prog 34=true:=by kernel_rfl
theorem aA3:aP Try.prog 35=true:=by kernel_rfl
theorem iX:aP Try.prog 36=true:=by kernel_rfl
theorem Ai:aP Try.prog 37=true:=by kernel_rfl
theorem Wi:aP Try.prog 38=true:=by kernel_rfl
theorem Vo:aP Try.prog 39=true:=by kernel_rfl
theorem zR:aP Try.prog 40=true:=by kernel_rfl
theorem aAR:aP Try.prog 41=true:=by kernel_rfl
theorem aBc:aP Try.prog 42=true:=by kernel_rfl
theorem Cr:aP Try.prog 43=true:=by kernel_rfl
theorem aBy:aP Try.prog 44=true:=by kernel_rfl
theorem aCx:aP Try.prog 45=true:=by kernel_rfl
theorem aCw:aP Try.prog 46=true:=by kernel_rfl
theorem aB6:aP Try.prog 47=true:=by kernel_rfl
theorem aBE:aP Try.prog 48=true:=by kernel_rfl
theorem aCq:aP Try.prog 49=true:=by kernel_rfl
theorem aCl:aP Try.prog 50=true:=by kernel_rfl
theorem aAY:aP Try.prog 51=true:=by kernel_rfl
theorem aBh:aP Try.prog 52=true:=by kernel_rfl
theorem aBt:aP Try.prog 53=true:=by kernel_rfl
theorem aBs:aP Try.prog 54=true:=by kernel_rfl
theorem aA9:aP Try.prog 55=true:=by kernel_rfl
theorem Wj:aP Try.prog 56=true:=by kernel_rfl
theorem aAN:aP Try.prog 57=true:=by kernel_rfl
theorem Km:aP Try.prog 58=true:=by kernel_rfl
theorem aBz:aP Try.prog 59=true:=by kernel_rfl
theorem aBa:aP Try.prog 60=true:=by kernel_rfl
theorem aCp:aP Try.prog 61=true:=by kernel_rfl
theorem aCj:aP Try.prog 62=true:=by kernel_rfl
theorem Al:aP Try.prog 63=true:=by kernel_rfl
theorem Qd:aP Try.prog 64=true:=by kernel_rfl
theorem aAS:aP Try.prog 65=true:=by kernel_rfl
theorem aAK:aP Try.prog 66=true:=by kernel_rfl
theorem aA8:aP Try.prog 67=true:=by kernel_rfl
theorem Vu:aP Try.prog 68=true:=by kernel_rfl
theorem aAW:aP Try.prog 69=true:=by kernel_rfl
theorem nD:aP Try.prog 70=true:=by kernel_rfl
theorem Wy:aP Try.prog 71=true:=by kernel_rfl
theorem Ka:aP Try.prog 72=true:=by kernel_rfl
theorem Yu:aP Try.prog 73=true:=by kernel_rfl
theorem Yp:aP Try.prog 74=true:=by kernel_rfl
theorem aAH:aP Try.prog 75=true:=by kernel_rfl
theorem aBw:aP Try.prog 76=true:=by kernel_rfl
theorem aCo:aP Try.prog 77=true:=by kernel_rfl
theorem aCu:aP Try.prog 78=true:=by kernel_rfl
theorem aCi:aP Try.prog 79=true:=by kernel_rfl
theorem aBA:aP Try.prog 80=true:=by kernel_rfl
theorem aCs:aP Try.prog 81=true:=by kernel_rfl
theorem aCv:aP Try.prog 82=true:=by kernel_rfl
theorem aCf:aP Try.prog 83=true:=by kernel_rfl
theorem aBl:aP Try.prog 85=true:=by kernel_rfl
theorem Uz:aP Try.prog 86=true:=by kernel_rfl
theorem Pf:aP Try.prog 87=true:=by kernel_rfl
theorem Xv:aP Try.prog 88=true:=by kernel_rfl
theorem Kn:aP Try.prog 89=true:=by kernel_rfl
theorem aAJ:aP Try.prog 90=true:=by kernel_rfl
theorem aAB:aP Try.prog 91=true:=by kernel_rfl
theorem aA5:aP Try.prog 92=true:=by kernel_rfl
theorem Ww:aP Try.prog 93=true:=by kernel_rfl
theorem aCe:aP Try.prog 94=true:=by kernel_rfl
theorem aB5:aP Try.prog 95=true:=by kernel_rfl
theorem aB7:aP Try.prog 96=true:=by kernel_rfl
theorem Xn:aP Try.prog 97=true:=by kernel_rfl
theorem aCd:aP Try.prog 98=true:=by kernel_rfl
theorem aAQ:aP Try.prog 99=true:=by kernel_rfl
theorem aAg:aP Try.prog 100=true:=by kernel_rfl
theorem aAf:aP Try.prog 101=true:=by kernel_rfl
theorem Zb:aP Try.prog 102=true:=by kernel_rfl
theorem aAk:aP Try.prog 103=true:=by kernel_rfl
theorem Qy:aP Try.prog 104=true:=by kernel_rfl
theorem Rw:aP Try.prog 105=true:=by kernel_rfl
theorem Zs:aP Try.prog 108=true:=by kernel_rfl
def zn:=And.intro Bool.not_true Bool.not_false
def zp.{u}:=@List.getElem?_toArray.{u}
def zs.{u,v}:=@Option.bind_some.{u,v}
def zl.{u}:=@List.toList_toArray.{u}
end Go.Rex
