/- Facts on types and functions of the program. -/
import Derived.Test.YtdlghpacmamnfaaS
import Derived.Test.YtdlghpacmamnfaaRexG10
import Derived.Test.YtdlghpacmamnfaaProg
set_option linter.unusedSimpArgs false
set_option linter.unusedVariables false
set_option linter.defProp false
namespace Go.Rex
open Go.Proofs
open Go Go.Rex Go.RowKit
set_option maxRecDepth 100000
theorem ag23:jG Try.prog 23=some true:=by kernel_rfl
theorem ag25:jG Try.prog 25=some true:=by kernel_rfl
theorem ag28:jG Try.prog 28=some true:=by kernel_rfl
theorem ag29:jG Try.prog 29=some false:=by kernel_rfl
theorem ag3:jG Try.prog 3=some false:=by kernel_rfl
theorem ag36:jG Try.prog 36=some true:=by kernel_rfl
theorem ag87:jG Try.prog 87=some true:=by kernel_rfl
theorem ar22:dL Try.prog 22=some (3,3):=by kernel_rfl
theorem ar23:dL Try.prog 23=some (2,3):=by kernel_rfl
theorem ar87:dL Try.prog 87=some (5,3):=by kernel_rfl
theorem by23:lH Try.prog 23=16:=by kernel_rfl
theorem cs23:Try.prog.cellsOf 23=2:=by kernel_rfl
theorem cs25:Try.prog.cellsOf 25=5:=by kernel_rfl
theorem cs28:Try.prog.cellsOf 28=2:=by kernel_rfl
theorem cs29:Try.prog.cellsOf 29=1:=by kernel_rfl
theorem cs3:Try.prog.cellsOf 3=1:=by kernel_rfl
theorem cs36:Try.prog.cellsOf 36=4:=by kernel_rfl
theorem cs60:Try.prog.cellsOf 60=9:=by kernel_rfl
theorem cs87:Try.prog.cellsOf 87=5:=by kernel_rfl
theorem eqg23:Program.eqGuardType Try.prog Try.prog.depth 23=false:=by kernel_rfl
theorem eqg28:Program.eqGuardType Try.prog Try.prog.depth 28=false:=by kernel_rfl
theorem eqk23{a0 a1 b0 b1:Int}:prun Try.prog (Op.equal 23 (.agg ⟨[.int .i64 a0,.int .i64 a1]⟩) (.agg ⟨[.int .i64 b0,.int .i64 b1]⟩))=some ([a0==b0,a1==b1].all id):=sX (n:=1) Try.underlying23 (by kernel_rfl) (EqI.cons (cA (by kernel_rfl) rfl) (cA (by kernel_rfl) rfl) (mD (by kernel_rfl)) (EqI.cons (cA (by kernel_rfl) rfl) (cA (by kernel_rfl) rfl) (mD (by kernel_rfl)) (EqI.nil _))) rfl
theorem eqs23{a0 a1 b0 b1:Int}:prun Try.prog (Op.equal 23 (.agg ⟨[.int .i64 a0,.int .i64 a1]⟩) (.agg ⟨[.int .i64 b0,.int .i64 b1]⟩))=some ([a0==b0,a1==b1].all id):=yX (sX (n:=1) Try.underlying23 (by kernel_rfl) (EqI.cons (cA (by kernel_rfl) rfl) (cA (by kernel_rfl) rfl) (mD (by kernel_rfl)) (EqI.cons (cA (by kernel_rfl) rfl) (cA (by kernel_rfl) rfl) (mD (by kernel_rfl)) (EqI.nil _))) rfl)
theorem eqs28{a0 a1 b0 b1:Int}:prun Try.prog (Op.equal 28 (.agg ⟨[.int .i64 a0,.int .i64 a1]⟩) (.agg ⟨[.int .i64 b0,.int .i64 b1]⟩))=some ([a0==b0,a1==b1].all id):=yX (wJ Try.underlying28 (by kernel_rfl) (EqF.cons (by decide) (cA (by kernel_rfl) rfl) (cA (by kernel_rfl) rfl) (mD (by kernel_rfl)) (EqF.cons (by decide) (cA (by kernel_rfl) rfl) (cA (by kernel_rfl) rfl) (mD (by kernel_rfl)) EqF.nil)))
theorem rY:fD Try.prog 25 0=some (0,22):=by kernel_rfl
theorem nV:fD Try.prog 25 1=some (3,23):=by kernel_rfl
theorem Bb:fD Try.prog 28 0=some (0,3):=by kernel_rfl
theorem Ar:fD Try.prog 28 1=some (1,3):=by kernel_rfl
theorem xW:fD Try.prog 36 0=some (0,23):=by kernel_rfl
theorem nL:fD Try.prog 36 1=some (2,23):=by kernel_rfl
theorem Bk:fD Try.prog 60 0=some (0,25):=by kernel_rfl
theorem zL:fD Try.prog 60 1=some (5,36):=by kernel_rfl
theorem ko23:KeyOk Try.prog 23 qG:=Ac (kd:=_) Try.underlying23 (fun _=>rfl) (fun e _=>by cases e<;>kernel_rfl) (fun _=>by simp[Instr.sameBits,qG]) (fun _ _=>rfl) (fun a b=>by unfold qG;rw[eqk23];congr 1;rw[Bool.eq_iff_iff];simp[Prod.ext_iff])
theorem ni66:fN Try.prog (some 66)=true:=by kernel_rfl
theorem ok23:okT Try.prog 23=true:=by kernel_rfl
theorem ok25:okT Try.prog 25=true:=by kernel_rfl
theorem ok28:okT Try.prog 28=true:=by kernel_rfl
theorem ok29:okT Try.prog 29=true:=by kernel_rfl
theorem ok3:okT Try.prog 3=true:=by kernel_rfl
theorem ok36:okT Try.prog 36=true:=by kernel_rfl
theorem ok60:okT Try.prog 60=true:=by kernel_rfl
theorem ok87:okT Try.prog 87=true:=by kernel_rfl
theorem so22:cK Try.prog 22=none:=by kernel_rfl
theorem so23:cK Try.prog 23=none:=by kernel_rfl
theorem so40:cK Try.prog 40=some 3:=by kernel_rfl
theorem so66:cK Try.prog 66=some 23:=by kernel_rfl
theorem so85:cK Try.prog 85=some 29:=by kernel_rfl
theorem st23:hZ Try.prog 23=none:=by kernel_rfl
theorem st28:hZ Try.prog 28=some [(0,1),(1,1)]:=by kernel_rfl
theorem st36:hZ Try.prog 36=some [(0,2),(2,2)]:=by kernel_rfl
theorem st60:hZ Try.prog 60=some [(0,5),(5,4)]:=by kernel_rfl
theorem st87:hZ Try.prog 87=none:=by kernel_rfl
theorem uV:Told k_i Ce:=⟨fun _=>rfl,fun _ _ _ L=>.v _ _ rfl⟩
theorem nW:Told Ai qG:=⟨fun _=>rfl,fun _ _ _ L=>VL.agg' (VLs.cons (.v _ _ rfl) (VLs.cons (.v _ _ rfl) VLs.nil))⟩
theorem um61:Try.prog.underlying 61=some (.map 23 3):=by kernel_rfl
theorem gQ:IntKind.i64.wrap (0+1)=1:=by decide
theorem xK:IntKind.i64.wrap (1+1)=2:=by decide
theorem xX:IntKind.i64.wrap (1-0)=1:=by decide
theorem zc23:eG Try.prog 23=some [.int .i64 0,.int .i64 0]:=by kernel_rfl
theorem zc28:eG Try.prog 28=some [.int .i64 0,.int .i64 0]:=by kernel_rfl
theorem zc29:eG Try.prog 29=some [.int .i64 0]:=by kernel_rfl
theorem zc3:eG Try.prog 3=some [.int .i64 0]:=by kernel_rfl
theorem zc36:eG Try.prog 36=some [.int .i64 0,.int .i64 0,.int .i64 0,.int .i64 0]:=by kernel_rfl
theorem zc60:eG Try.prog 60=some [.int .i64 0,.int .i64 0,.int .i64 0,.int .i64 0,.int .i64 0,.int .i64 0,.int .i64 0,.int .i64 0,.int .i64 0]:=by kernel_rfl
theorem zc87:eG Try.prog 87=some [.int .i64 0,.int .i64 0,.int .i64 0,.int .i64 0,.int .i64 0]:=by kernel_rfl
theorem zm3:((Try.prog.info? 3).bind (·.zero))=some (Ce 0):=by kernel_rfl
theorem Cb:dP Try.prog 4=true:=by kernel_rfl
theorem Ca:dP Try.prog 5=true:=by kernel_rfl
theorem Bw:dP Try.prog 6=true:=by kernel_rfl
theorem Cg:dP Try.prog 7=true:=by kernel_rfl
theorem kF:dP Try.prog 8=true:=by kernel_rfl
theorem Au:dP Try.prog 15=true:=by kernel_rfl
theorem Bl:dP Try.prog 16=true:=by kernel_rfl
theorem xF:dP Try.prog 17=true:=by kernel_rfl
theorem Ay:dP Try.prog 18=true:=by kernel_rfl
theorem yR:dP Try.prog 19=true:=by kernel_rfl
theorem uQ:dP Try.prog 20=true:=by kernel_rfl
theorem Ba:dP Try.prog 21=true:=by kernel_rfl
theorem Bq:dP Try.prog 34=true:=by kernel_rfl
theorem As:dP Try.prog 35=true:=by kernel_rfl
theorem Bm:dP Try.prog 36=true:=by kernel_rfl
theorem Bd:dP Try.prog 41=true:=by kernel_rfl
def zn:=And.intro Bool.not_true j1
def zp.{u}:=@List.getElem?_toArray.{u}
def zs.{u,v}:=@Option.bind_some.{u,v}
def zl.{u}:=@List.toList_toArray.{u}
end Go.Rex
