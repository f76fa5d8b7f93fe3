/- Proofs that the program's functions do what these plain functions say. -/
import Derived.Test.YtdlghpacmamnfaaGB
import Derived.Test.YtdlghpacmamnfaaS
set_option linter.unusedSimpArgs false
set_option linter.unusedVariables false
set_option linter.defProp false
namespace Go.Rex
open Go.Proofs
open Go Go.Rex Go.RowKit
set_option maxRecDepth 100000
set_option maxHeartbeats 200000
def y1:=an @ag3 <| an @ag87 <| an @ar22 <| an @ar23 <| an @ar87 <| an @cs3 <| an @cs87 <| an @rY <| an @nV <| an @ok3 <| an @ok87 <| an @so22 <| an @so23 <| an @st87 <| @zc87
theorem fQ{v1:Int}{v2:Int}{v3:Int}{v4:Int}{v5:Int}{v6:Int}{v7:Int}{v8:Int}{v9:Int}{v10:Int}(hr:bY v1 v2 v3 v4 v5=some (v6,v7,v8,v9,v10)):Spec (lim Try.prog) 34 [.agg [.v (.int .i64 v1),.v (.int .i64 v2),.v (.int .i64 v3),.v (.int .i64 v4),.v (.int .i64 v5)]] ⟨[.agg [.v (.int .i64 v6),.v (.int .i64 v7),.v (.int .i64 v8),.v (.int .i64 v9),.v (.int .i64 v10)]],[]⟩:=by
 unfold bY at hr
 have T:=y1
 apply Spec.fn Try.func34 rfl
 focus (simp[Try.f34]<;>exact rfl)
 focus
  repeat (first|(with_reducible first|refine mv ?_|refine TO.nil ?_)|((with_reducible first|apply TO.bf|apply TO.al|apply TO.fa|apply TO.ia|apply TO.ld|apply TO.bld|apply TO.sv);(repeat (focus (show _=_;first|exact k1 rfl|exact k2 rfl|(simp only[zz,y1,Nat.reduceAdd,Nat.reduceMul,Nat.reduceLeDiff,Nat.reduceEqDiff,aE,aD,z5,Int.reduceToNat,Int.reduceLE,Int.reduceLT,Int.cast_ofNat_Int,tload,cP,cM,List.getElem?_map,tbuild,tfill]<;>exact rfl)|exact rfl)));(with_reducible apply TO.here))|((with_reducible apply TX.region);(focus (simp only[zl]<;>exact rfl));(focus rfl);(try dsimp only))|fail)
  cases hr
  refine⟨.inr rfl,_,(ry T),?_⟩
  exact wr [] rfl .nil
 rfl
theorem jJ{v1:Int}{v2:Int}{v3:Bool}(hr:eC v1 v2=some (v3)):Spec (lim Try.prog) 35 [.v (.int .i64 v1),.v (.int .i64 v2)] ⟨[.v (.bool v3)],[]⟩:=by
 unfold eC at hr
 have T:=trivial
 apply Spec.fn Try.func35 rfl
 focus (simp[Try.f35]<;>exact rfl)
 focus
  refine wa_ T (g:=?_)
  apply TO.pop1 (wn T) (Ad rfl)
  repeat exact sd T
  refine wa_ T (g:=?_)
  rcases ifs hr with⟨h1,hr⟩|⟨h1,hr⟩
  ·have T:=an h1 T
   refine wa_ T (g:=?_)
   cases hr
   refine⟨.inr rfl,_,(ry T),?_⟩
   exact wk_ T [] rfl .nil
  ·have T:=an h1 T
   refine wa_ T (g:=?_)
   cases hr
   refine⟨.inr rfl,_,(ry T),?_⟩
   exact wk_ T [] rfl .nil
 rfl
def y2:=an @ag3 <| an @cs3 <| an @ok3 <| an @so40 <| @gQ
theorem eX{v1:(List Int)}{v2:Int}{v3:Int}(hr:bZ v1 v2=some (v3)):Spec (lim Try.prog) 17 [.list 1 (v1.map e_i),.v (.int .i64 v2)] ⟨[.v (.int .i64 v3)],[]⟩:=by
 unfold bZ at hr
 have T:=an y2 <| @e_i.eq_1
 apply Spec.fn Try.func17 rfl
 focus (simp[Try.f17]<;>exact rfl)
 focus
  refine wc_ T (g:=?_)
  obtain⟨v9,h9,hr⟩:=bs hr
  refine TX.loopE (step:=bW v1 v2) (x:=0) h9 (fun v4=>⟨.Z::.v (.int .i64 v2)::.Z::.Z::.Z::.Z::.Z::.list 1 (v1.map e_i)::.v (.int .i64 (v1.length:Int))::.v (.int .i64 v4)::.Z::.Z::.Z::.Z::.Z::.Z::.Z::.Z::[],[]⟩) (fun e=>match e with|(.inl _)=>(.ret,⟨.Z::.Z::.Z::.Z::.v (.int .i64 2)::.Z::.Z::.Z::.Z::.Z::.Z::.Z::.Z::.Z::.Z::.Z::.Z::.Z::[],[]⟩)|(.inr _)=>(.exit 0,⟨.Z::.Z::.Z::.Z::.Z::.Z::.Z::.Z::.Z::.Z::.Z::.Z::.Z::.Z::.Z::.Z::.Z::.Z::[],[]⟩)) ?_ ?_ ?_ ?_
  ·rintro v4 v0 hr
   dsimp only[bW] at hr
   try dsimp only
   refine wa_ T (g:=?_)
   rcases ifs hr with⟨h5,hr⟩|⟨h5,hr⟩
   ·have T:=an h5 T
    refine wa_ T (g:=?_)
    obtain⟨v7,h6,hr⟩:=bs hr
    have T:=an (gx e_i h6) T
    refine wA T (g:=?_)
    obtain⟨v8,h7,hr⟩:=bs hr
    apply TO.cal (wn T) rfl As (jJ h7) rfl rfl rfl
    repeat exact sd T
    refine wa_ T (g:=?_)
    apply TO.pop1 (wn T) (jF rfl)
    repeat exact sd T
    refine wa_ T (g:=?_)
    rcases ifs hr with⟨h8,hr⟩|⟨h8,hr⟩
    ·have T:=an h8 T
     refine wa_ T (g:=?_)
     cases hr
     refine⟨rfl,?_⟩
     exact wk_ T [] rfl .nil
    ·have T:=an h8 T
     refine wa_ T (g:=?_)
     cases hr
     refine⟨rfl,?_⟩
     exact wk_ T [] rfl .nil
   ·have T:=an h5 T
    refine wa_ T (g:=?_)
    cases hr
    refine⟨rfl,?_⟩
    exact wk_ T [] rfl .nil
  ·intro e h;rcases e with _|e<;>cases h
  ·try dsimp only
   rcases v9 with _|_
   ·try dsimp only at hr
    try dsimp only
    refine wa_ T (g:=?_)
    cases hr
    refine⟨.inr rfl,_,(ry T),?_⟩
    exact wr [] rfl .nil
   ·try dsimp only at hr
    try dsimp only
    refine wa_ T (g:=?_)
    cases hr
    refine⟨.inr rfl,_,(ry T),?_⟩
    exact wr [] rfl .nil
  ·try dsimp only
   exact wr [] rfl .nil
 rfl
def y3:=an @ag25 <| an @ar87 <| an @cs25 <| an @cs3 <| an @cs87 <| an @ok25 <| an @ok3 <| an @ok87 <| @zc87
theorem gB{v1:Int}{v2:Int}{v3:Int}{v4:Int}{v5:Int}{v6:Int}(hr:bM v1 v2 v3 v4 v5=some (v6)):Spec (lim Try.prog) 16 [.agg [.v (.int .i64 v1),.v (.int .i64 v2),.v (.int .i64 v3),.v (.int .i64 v4),.v (.int .i64 v5)]] ⟨[.v (.int .i64 v6)],[]⟩:=by
 unfold bM at hr
 have T:=an y3 <| @e_i.eq_1
 apply Spec.fn Try.func16 rfl
 focus (simp[Try.f16]<;>exact rfl)
 focus
  refine wB T (g:=?_)
  obtain⟨⟨v7,v8,v9,v10,v11⟩,h1,hr⟩:=bs hr
  try dsimp only at hr
  apply TO.cal (wn T) rfl Bq (fQ h1) rfl rfl rfl
  repeat exact sd T
  refine wa_ T (g:=?_)
  apply TO.frz 0 rfl rfl
  repeat exact sd T
  refine wa_ T (g:=?_)
  apply TO.sa e_i ([v7,v8,v9,v10,v11]:List Int) (wn T) rfl ar87 ok3 cs3 rfl rfl rfl rfl
  repeat exact sd T
  refine wa_ T (g:=?_)
  obtain⟨v12,h2,hr⟩:=bs hr
  apply TO.cal (wn T) rfl xF (eX h2) rfl rfl rfl
  repeat exact sd T
  refine wa_ T (g:=?_)
  cases hr
  refine⟨.inr rfl,_,(ry T),?_⟩
  exact wr [] rfl .nil
 rfl
def y4:=an @ag29 <| an @cs29 <| an @ok29 <| an @so85 <| @gQ
theorem gU{v1:(List Int)}{v2:Int}(hr:cE v1=some (v2)):Spec (lim Try.prog) 15 [.list 1 (v1.map e_i)] ⟨[.v (.int .i64 v2)],[]⟩:=by
 unfold cE at hr
 have T:=an y4 <| @e_i.eq_1
 apply Spec.fn Try.func15 rfl
 focus (simp[Try.f15]<;>exact rfl)
 focus
  refine wc_ T (g:=?_)
  obtain⟨v7,h7,hr⟩:=bs hr
  refine TX.loopE (step:=bJ v1) (x:=0) h7 (fun v3=>⟨.Z::.Z::.Z::.Z::.Z::.list 1 (v1.map e_i)::.v (.int .i64 (v1.length:Int))::.v (.int .i64 v3)::.Z::.Z::.Z::.Z::.Z::.Z::.Z::[],[]⟩) (fun e=>match e with|(.inl v5)=>(.ret,⟨.Z::.Z::.v (.int .i64 v5)::.Z::.Z::.Z::.Z::.Z::.Z::.Z::.Z::.Z::.Z::.Z::.Z::[],[]⟩)|(.inr _)=>(.exit 0,⟨.Z::.Z::.Z::.Z::.Z::.Z::.Z::.Z::.Z::.Z::.Z::.Z::.Z::.Z::.Z::[],[]⟩)) ?_ ?_ ?_ ?_
  ·rintro v3 v0 hr
   dsimp only[bJ] at hr
   try dsimp only
   refine wa_ T (g:=?_)
   rcases ifs hr with⟨h4,hr⟩|⟨h4,hr⟩
   ·have T:=an h4 T
    refine wa_ T (g:=?_)
    obtain⟨v6,h5,hr⟩:=bs hr
    have T:=an (gx e_i h5) T
    refine wA T (g:=?_)
    rcases ifs hr with⟨h6,hr⟩|⟨h6,hr⟩
    ·have T:=an h6 T
     refine wa_ T (g:=?_)
     cases hr
     refine⟨rfl,?_⟩
     exact wk_ T [] rfl .nil
    ·have T:=an h6 T
     refine wa_ T (g:=?_)
     cases hr
     refine⟨rfl,?_⟩
     exact wk_ T [] rfl .nil
   ·have T:=an h4 T
    refine wa_ T (g:=?_)
    cases hr
    refine⟨rfl,?_⟩
    exact wk_ T [] rfl .nil
  ·intro e h;rcases e with _|e<;>cases h
  ·try dsimp only
   rcases v7 with v8|_
   ·try dsimp only at hr
    try dsimp only
    refine wa_ T (g:=?_)
    cases hr
    refine⟨.inr rfl,_,(ry T),?_⟩
    exact wr [] rfl .nil
   ·try dsimp only at hr
    try dsimp only
    refine wa_ T (g:=?_)
    cases hr
    refine⟨.inr rfl,_,(ry T),?_⟩
    exact wr [] rfl .nil
  ·try dsimp only
   exact wr [] rfl .nil
 rfl
theorem kH{v1:Int}{v2:Int}{v3:Int}(hr:dW v1 v2=some (v3)):Spec (lim Try.prog) 41 [.v (.int .i64 v1),.v (.int .i64 v2)] ⟨[.v (.int .i64 v3)],[]⟩:=by
 unfold dW at hr
 have T:=trivial
 apply Spec.fn Try.func41 rfl
 focus (simp[Try.f41]<;>exact rfl)
 focus
  refine wa_ T (g:=?_)
  by_cases h1:v2=0
  ·rw[b8 h1] at hr
   cases hr
  ·rw[d5 h1] at hr
   have T:=an h1 T
   refine wa_ T (g:=?_)
   cases hr
   refine⟨.inr rfl,_,(ry T),?_⟩
   exact wr [] rfl .nil
 rfl
theorem jH{v1:Int}{v2:Int}{v3:Int}(hr:dX v1 v2=some (v3)):Spec (lim Try.prog) 36 [.v (.int .i64 v1),.v (.int .i64 v2)] ⟨[.v (.int .i64 v3)],[]⟩:=by
 unfold dX at hr
 have T:=trivial
 apply Spec.fn Try.func36 rfl
 focus (simp[Try.f36]<;>exact rfl)
 focus
  refine wa_ T (g:=?_)
  obtain⟨v4,h1,hr⟩:=bs hr
  apply TO.cal (wn T) rfl Bd (kH h1) rfl rfl rfl
  repeat exact sd T
  refine wa_ T (g:=?_)
  cases hr
  refine⟨.inr rfl,_,(ry T),?_⟩
  exact wr [] rfl .nil
 rfl
def y5:=an @ag3 <| an @ar22 <| an @ar23 <| an @cs23 <| an @cs3 <| an @rY <| an @nV <| an @xW <| an @nL <| an @Bk <| an @zL <| an @ok23 <| an @ok3 <| an @so22 <| an @so23 <| an @st23 <| @zc23
theorem fE{v1:Int}{v2:Int}{v3:Int}{v4:Int}{v5:Int}{v6:Int}{v7:Int}{v8:Int}{v9:Int}{v10:Int}{v11:Int}{v12:Bool}{v13:Int}{v14:Int}{v15:Int}{v16:Int}{v17:Int}{v18:Int}{v19:Int}{v20:Int}{v21:Int}(hr:aX v1 v2 v3 v4 v5 v6 v7 v8 v9 v10=some (v11,v12,v13,v14,v15,v16,v17,v18,v19,v20,v21)):SpecO (lim Try.prog) 18 [.lptr 0 0 0,.v (.int .i64 v10)] [.var [.v (.int .i64 v1),.v (.int .i64 v2),.v (.int .i64 v3),.v (.int .i64 v4),.v (.int .i64 v5),.v (.int .i64 v6),.v (.int .i64 v7),.v (.int .i64 v8),.v (.int .i64 v9)]] (.tuple [.v (.int .i64 v11),.v (.bool v12)]) [.var [.v (.int .i64 v13),.v (.int .i64 v14),.v (.int .i64 v15),.v (.int .i64 v16),.v (.int .i64 v17),.v (.int .i64 v18),.v (.int .i64 v19),.v (.int .i64 v20),.v (.int .i64 v21)]]:=by
 unfold aX at hr
 have T:=y5
 apply SpecO.of (is:=[0]) Try.func18 rfl rfl rfl rfl
 focus (simp[Try.f18]<;>exact rfl)
 focus rfl
 focus rfl
 focus rfl
 focus rfl
 focus (simp[qY,cl,e_i])
 focus
  repeat (first|(with_reducible first|refine mv ?_|refine TO.nil ?_)|((with_reducible first|apply TO.asg|apply TO.mv);(repeat (focus (show _=_;first|exact k1 rfl|exact k2 rfl|(simp only[zz,y5,Nat.reduceAdd,Nat.reduceMul,Nat.reduceLeDiff,Nat.reduceEqDiff]<;>exact rfl)|exact rfl)));(with_reducible apply TO.here))|((with_reducible apply TX.region);(focus (simp only[zl,List.append_eq,List.cons_append,List.nil_append]<;>exact rfl));(focus rfl);(try dsimp only))|with_reducible refine TD.nil ?_|((with_reducible first|apply TD.mv|apply TD.fa|apply TD.ia|apply TD.ld|apply TD.bin|apply TD.asg|apply TD.pop1);(repeat (focus (show _=_;first|exact k1 rfl|exact k2 rfl|(simp only[zz,y5,Nat.reduceAdd,Nat.reduceMul,Nat.reduceLeDiff,Nat.reduceEqDiff,tpop,aE,aD,z5,Int.reduceToNat,Int.reduceLE,Int.reduceLT,Int.cast_ofNat_Int,tload,cP,cM,List.getElem?_map]<;>exact rfl)|exact rfl)));(with_reducible refine TD.here ?_))|((with_reducible apply TX.drawn);(focus decide +kernel);(focus (simp only[zl,List.append_eq,List.cons_append,List.nil_append]<;>exact rfl));(focus exact rfl);(try dsimp only))|fail)
  obtain⟨v22,h1,hr⟩:=bs hr
  apply TO.cal (wn T) rfl Bm (jH h1) rfl rfl rfl
  repeat exact sd T
  refine wa_ T (g:=?_)
  apply TO.pop1 (wn T) (vL rfl rfl)
  repeat exact sd T
  refine wa_ T (g:=?_)
  apply TO.pop1 (wn T) (vM rfl rfl)
  repeat exact sd T
  repeat (first|(with_reducible first|refine mv ?_|refine TO.nil ?_)|((with_reducible first|apply TO.asg|apply TO.mv|apply TO.fa|apply TO.ia|apply TO.ld|apply TO.bld|apply TO.sv|apply TO.bin|apply TO.pop1);(repeat (focus (show _=_;first|exact k1 rfl|exact k2 rfl|(simp only[zz,y5,Nat.reduceAdd,Nat.reduceMul,Nat.reduceLeDiff,Nat.reduceEqDiff,tpop,aE,aD,z5,Int.reduceToNat,Int.reduceLE,Int.reduceLT,Int.cast_ofNat_Int,tload,cP,cM,List.getElem?_map,tbuild,tfill]<;>exact rfl)|exact rfl)));(with_reducible apply TO.here))|((with_reducible apply TX.region);(focus (simp only[zl,List.append_eq,List.cons_append,List.nil_append]<;>exact rfl));(focus rfl);(try dsimp only))|fail)
  cases hr
  refine⟨.inr rfl,_,(ry T),rfl,rfl,⟨.inr ⟨rfl,rfl,rfl⟩,trivial⟩⟩
end Go.Rex
namespace Go.Rex
open Go.Proofs
open Go Go.Rex Go.RowKit
set_option maxRecDepth 100000
set_option maxHeartbeats 1000000
def y6:=an @ag23 <| an @ag25 <| an @ag28 <| an @ar23 <| an @cs23 <| an @cs25 <| an @cs28 <| an @cs29 <| an @cs3 <| an @cs60 <| an @eqk23 <| an @nL <| an @zL <| an @ko23 <| an @ok23 <| an @ok25 <| an @ok28 <| an @ok3 <| an @ok60 <| an @so85 <| an @st28 <| an @st36 <| an @st60 <| an @uV <| an @nW <| an @um61 <| an @zc28 <| an @zc29 <| an @zc3 <| an @zc36 <| an @zc60 <| an @zm3 <| @gQ
theorem jK{v1:Int}{v2:Int}{v3:Int}{v4:Int}{v5:Int}{v6:Int}{v7:Int}{v8:Int}{v9:Int}{v10:Int}(hr:dD v1 v2 v3 v4 v5 v6 v7=some (v8,v9,v10)):Spec (lim Try.prog) 5 [.agg [.v (.int .i64 v1),.v (.int .i64 v2),.v (.int .i64 v3),.v (.int .i64 v4),.v (.int .i64 v5)],.agg [.v (.int .i64 v6),.v (.int .i64 v7)]] ⟨[.tuple [.agg [.v (.int .i64 v8),.v (.int .i64 v9)],.v (.int .i64 v10)]],[]⟩:=by
 unfold dD at hr
 have T:=an y6 <| @e_i.eq_1
 apply Spec.fn Try.func5 rfl
 focus (simp[Try.f5]<;>exact rfl)
 focus
  refine wB T (g:=?_)
  obtain⟨v11,h1,hr⟩:=bs hr
  apply TD.cal (wn T) rfl Bl (gB h1) rfl rfl rfl
  repeat exact sd T
  refine wa_ T (g:=?_)
  apply TD.sa e_i ([v6,v7]:List Int) (wn T) rfl ar23 ok3 cs3 rfl rfl rfl rfl
  repeat exact sd T
  refine wa_ T (g:=?_)
  obtain⟨v12,h2,hr⟩:=bs hr
  apply TD.cal (wn T) rfl xF (eX h2) rfl rfl rfl
  repeat exact sd T
  refine wa_ T (g:=?_)
  apply TD.bm e_i ([v11,v12]:List Int) (wn T) rfl (by simp only[zz,y6,e_i,Nat.reduceAdd,Nat.reduceMul,Nat.reduceLeDiff,Nat.reduceEqDiff,tslice,tparts];exact rfl) rfl
  repeat exact sd T
  refine wa_ T (g:=?_)
  obtain⟨v13,h3,hr⟩:=bs hr
  apply TD.cal (wn T) rfl Au (gU h3) rfl rfl rfl
  repeat exact sd T
  refine wa_ T (g:=?_)
  rcases ifs hr with⟨h4,hr⟩|⟨h4,hr⟩
  ·have T:=an h4 T
   refine wa_ T (g:=?_)
   cases hr
   refine⟨.inr rfl,_,(ry T),?_⟩
   exact wk_ T [] rfl .nil
  ·have T:=an h4 T
   refine wA T (g:=?_)
   apply TO.mkm (wn T)
   repeat exact sd T
   refine wa_ T (g:=?_)
   obtain⟨v53,h13,hr⟩:=bs hr
   refine TX.loopE (step:=aM) (x:=(v1,v2,v3,v4,v5,0,0,v6,v7,([]:List ((Int×Int)×Int)),0)) h13 (fun (v14,v15,v16,v17,v18,v19,v20,v21,v22,v23,v24)=>⟨.Z::.Z::.Z::.Z::.lptr 0 0 0::.Z::.Z::.lptr 1 0 0::.lmap 2::.Z::.Z::.Z::.Z::.Z::.Z::.Z::.Z::.Z::.Z::.Z::.Z::.Z::.Z::.Z::.Z::.Z::.Z::.v (.int .i64 v24)::.Z::.Z::.Z::.Z::.Z::.Z::.Z::.Z::.Z::.Z::.Z::.Z::.Z::.Z::.Z::.Z::.Z::.Z::.Z::.Z::.Z::.Z::.Z::.Z::[],[.var [.v (.int .i64 0),.v (.int .i64 0)],.var [.v (.int .i64 v14),.v (.int .i64 v15),.v (.int .i64 v16),.v (.int .i64 v17),.v (.int .i64 v18),.v (.int .i64 v19),.v (.int .i64 v20),.v (.int .i64 v21),.v (.int .i64 v22)],.tbl (ents Ai k_i v23)]⟩) (fun e=>match e with|(.inl (v38,v39))=>(.ret,⟨.Z::.Z::.Z::.Z::.lptr 0 0 0::.v (.int .i64 0)::.Z::.Z::.Z::.Z::.Z::.Z::.Z::.Z::.Z::.Z::.Z::.Z::.Z::.Z::.Z::.Z::.Z::.Z::.Z::.Z::.Z::.Z::.Z::.Z::.Z::.Z::.Z::.Z::.Z::.Z::.Z::.Z::.Z::.Z::.Z::.Z::.Z::.Z::.Z::.Z::.Z::.Z::.Z::.Z::.Z::.Z::[],[.var [.v (.int .i64 v38),.v (.int .i64 v39)]]⟩)|(.inr _)=>(.exit 0,⟨.Z::.Z::.Z::.Z::.lptr 0 0 0::.Z::.Z::.Z::.Z::.Z::.Z::.Z::.Z::.Z::.Z::.Z::.Z::.Z::.Z::.Z::.Z::.Z::.Z::.Z::.Z::.Z::.Z::.Z::.Z::.Z::.Z::.Z::.Z::.Z::.Z::.Z::.Z::.Z::.Z::.Z::.Z::.Z::.Z::.Z::.Z::.Z::.Z::.Z::.Z::.Z::.Z::.Z::[],[.var [.v (.int .i64 0),.v (.int .i64 0)]]⟩)) ?_ ?_ ?_ ?_
   ·rintro⟨v14,v15,v16,v17,v18,v19,v20,v21,v22,v23,v24⟩ v0 hr
    dsimp only[aM] at hr
    try dsimp only
    refine wa_ T (g:=?_)
    rcases ifs hr with⟨h9,hr⟩|⟨h9,hr⟩
    ·have T:=an h9 T
     refine wA T (g:=?_)
     obtain⟨⟨v40,v41⟩,h10,hr⟩:=bs hr
     try dsimp only at hr
     obtain⟨h10e1,h10e2⟩:=Prod.mk.inj (a6 h10)
     skip
     apply TO.lkm (m:=v23) (k:=(v21,v22)) (z:=0) (wn T) rfl rfl rfl nW uV (fun _ _=>rfl) um61 ko23 zm3
     repeat exact sd T
     rw[h10e1,h10e2]
     dsimp only[k_i]
     refine wa_ T (g:=?_)
     rcases ifs hr with⟨h11,hr⟩|⟨h11,hr⟩
     ·have T:=an h11 T
      refine wa_ T (g:=?_)
      cases hr
      refine⟨rfl,?_⟩
      exact wk_ T [some 0] rfl (rv .nil rfl)
     ·have T:=an h11 T
      refine wA T (g:=?_)
      apply TO.stm (m:=v23) (k:=(v21,v22)) (v:=v24) (wn T) rfl rfl rfl rfl nW uV (fun _=>rfl) um61 ko23
      repeat exact sd T
      refine wa_ T (g:=?_)
      obtain⟨⟨v42,v43,v44,v45,v46,v47,v48,v49,v50,v51,v52⟩,h12,hr⟩:=bs hr
      try dsimp only at hr
      apply TO.ownl [1] (wn T) rfl Ay (fE h12) (.var .nil rfl rfl) rfl rfl (by decide) (by simp[qY,cl,e_i])
      repeat exact sd T
      refine wa_ T (g:=?_)
      cases hr
      refine⟨rfl,?_⟩
      exact wk_ T [some 0,some 1,some 2] rfl (rv (rv (.tbl .nil rfl rfl) rfl) rfl)
    ·have T:=an h9 T
     refine wa_ T (g:=?_)
     cases hr
     refine⟨rfl,?_⟩
     exact wk_ T [some 0] rfl (rv .nil rfl)
   ·intro e h;rcases e with _|e<;>cases h
   ·try dsimp only
    rcases v53 with⟨v54,v55⟩|_
    ·try dsimp only at hr
     try dsimp only
     refine wa_ T (g:=?_)
     cases hr
     refine⟨.inr rfl,_,(ry T),?_⟩
     exact wk_ T [] rfl .nil
    ·try dsimp only at hr
     try dsimp only
     refine wa_ T (g:=?_)
     cases hr
     refine⟨.inr rfl,_,(ry T),?_⟩
     exact wk_ T [] rfl .nil
   ·try dsimp only
    exact wk_ T [some 0,some 1,some 2] rfl (rv (rv (.tbl .nil rfl rfl) rfl) rfl)
 rfl
end Go.Rex
namespace Go.Rex
open Go.Proofs
open Go Go.Rex Go.RowKit
set_option maxRecDepth 100000
set_option maxHeartbeats 200000
theorem gP{v1:Int}{v2:Int}{v3:Int}{v4:Bool}(hr:dU v1 v2 v3=some (v4)):Spec (lim Try.prog) 19 [.v (.int .i64 v1),.v (.int .i64 v2),.v (.int .i64 v3)] ⟨[.v (.bool v4)],[]⟩:=by
 unfold dU at hr
 have T:=trivial
 apply Spec.fn Try.func19 rfl
 focus (simp[Try.f19]<;>exact rfl)
 focus
  refine wa_ T (g:=?_)
  rcases ifs hr with⟨h1,hr⟩|⟨h1,hr⟩
  ·have T:=an h1 T
   refine wa_ T (g:=?_)
   cases hr
   refine⟨.inr rfl,_,(ry T),?_⟩
   exact wk_ T [] rfl .nil
  ·have T:=an h1 T
   refine wa_ T (g:=?_)
   cases hr
   refine⟨.inr rfl,_,(ry T),?_⟩
   exact wk_ T [] rfl .nil
 rfl
def y7:=an @ag3 <| an @ar22 <| an @ar23 <| an @cs3 <| an @rY <| an @nV <| an @ok3 <| an @so22 <| an @so23 <| an @so40 <| an @zc3 <| @gQ
theorem gK{v1:Int}{v2:Int}{v3:Int}{v4:Int}{v5:Int}{v6:Int}(hr:bV v1 v2 v3 v4 v5=some (v6)):Spec (lim Try.prog) 6 [.agg [.v (.int .i64 v1),.v (.int .i64 v2),.v (.int .i64 v3),.v (.int .i64 v4),.v (.int .i64 v5)]] ⟨[.v (.int .i64 v6)],[]⟩:=by
 unfold bV at hr
 have T:=an y7 <| @e_i.eq_1
 apply Spec.fn Try.func6 rfl
 focus (simp[Try.f6]<;>exact rfl)
 focus
  repeat (first|(with_reducible first|refine mv ?_|refine TO.nil ?_)|((with_reducible first|apply TO.bf|apply TO.asg|apply TO.fa|apply TO.ia|apply TO.ld);(repeat (focus (show _=_;first|exact k1 rfl|exact k2 rfl|(simp only[zz,y7,e_i,Nat.reduceAdd,Nat.reduceMul,Nat.reduceLeDiff,Nat.reduceEqDiff,aE,aD,z5,Int.reduceToNat,Int.reduceLE,Int.reduceLT,Int.cast_ofNat_Int,tload,cP,cM,List.getElem?_map]<;>exact rfl)|exact rfl)));(with_reducible apply TO.here))|((with_reducible apply TX.region);(focus (simp only[zl]<;>exact rfl));(focus rfl);(try dsimp only))|fail)
  apply TO.bm e_i ([v1,v2,v3,v4,v5]:List Int) (wn T) rfl (by simp only[zz,y7,e_i,Nat.reduceAdd,Nat.reduceMul,Nat.reduceLeDiff,Nat.reduceEqDiff,tslice,tparts];exact rfl) rfl
  repeat exact sd T
  refine wa_ T (g:=?_)
  obtain⟨v12,h9,hr⟩:=bs hr
  refine TX.loopE (step:=bB v1 v2 v3 v4 v5) (x:=0) h9 (fun v7=>⟨.Z::.Z::.Z::.list 1 (([v1,v2,v3,v4,v5]:List Int).map e_i)::.v (.int .i64 v7)::.Z::.Z::.Z::.Z::.Z::.Z::.Z::.Z::.Z::.Z::.Z::.Z::.Z::.Z::.Z::.Z::.Z::.Z::.Z::.Z::.Z::.Z::.Z::.Z::.Z::.Z::.Z::.Z::[],[]⟩) (fun e=>match e with|(.inl _)=>(.ret,⟨.Z::.Z::.v (.int .i64 2)::.Z::.Z::.Z::.Z::.Z::.Z::.Z::.Z::.Z::.Z::.Z::.Z::.Z::.Z::.Z::.Z::.Z::.Z::.Z::.Z::.Z::.Z::.Z::.Z::.Z::.Z::.Z::.Z::.Z::.Z::[],[]⟩)|(.inr _)=>(.exit 0,⟨.Z::.Z::.Z::.Z::.Z::.Z::.Z::.Z::.Z::.Z::.Z::.Z::.Z::.Z::.Z::.Z::.Z::.Z::.Z::.Z::.Z::.Z::.Z::.Z::.Z::.Z::.Z::.Z::.Z::.Z::.Z::.Z::.Z::[],[]⟩)) ?_ ?_ ?_ ?_
  ·rintro v7 v0 hr
   dsimp only[bB] at hr
   try dsimp only
   refine wa_ T (g:=?_)
   apply TO.len (p:=.v (.int .i64 5)) (wn T)
   repeat exact sd T
   refine wa_ T (g:=?_)
   rcases ifs hr with⟨h5,hr⟩|⟨h5,hr⟩
   ·have T:=an h5 T
    refine wa_ T (g:=?_)
    obtain⟨v10,h6,hr⟩:=bs hr
    have h6m:=tP (f:=e_i) h6
    have h6l:=rM h6
    try simp only[List.length_set] at h6l
    have h6a:=qV h6
    have h6n:=h6m
    simp only[List.map_cons,List.map_nil,e_i] at h6n
    have T:=an h6m T
    have T:=an h6l T
    have T:=an h6a T
    have T:=an h6n T
    refine wA T (g:=?_)
    obtain⟨v11,h7,hr⟩:=bs hr
    apply TO.cal (wn T) rfl yR (gP h7) rfl rfl rfl
    repeat exact sd T
    refine wa_ T (g:=?_)
    apply TO.pop1 (wn T) (jF rfl)
    repeat exact sd T
    refine wa_ T (g:=?_)
    rcases ifs hr with⟨h8,hr⟩|⟨h8,hr⟩
    ·have T:=an h8 T
     refine wa_ T (g:=?_)
     cases hr
     refine⟨rfl,?_⟩
     exact wk_ T [] rfl .nil
    ·have T:=an h8 T
     refine wa_ T (g:=?_)
     cases hr
     refine⟨rfl,?_⟩
     exact wk_ T [] rfl .nil
   ·have T:=an h5 T
    refine wa_ T (g:=?_)
    cases hr
    refine⟨rfl,?_⟩
    exact wk_ T [] rfl .nil
  ·intro e h;rcases e with _|e<;>cases h
  ·try dsimp only
   rcases v12 with _|_
   ·try dsimp only at hr
    try dsimp only
    refine wa_ T (g:=?_)
    cases hr
    refine⟨.inr rfl,_,(ry T),?_⟩
    exact wr [] rfl .nil
   ·try dsimp only at hr
    try dsimp only
    refine wa_ T (g:=?_)
    cases hr
    refine⟨.inr rfl,_,(ry T),?_⟩
    exact wr [] rfl .nil
  ·try dsimp only
   exact wr [] rfl .nil
 rfl
theorem dN{v1:Int}{v2:Bool}(hr:bX v1=some (v2)):Spec (lim Try.prog) 20 [.v (.int .i64 v1)] ⟨[.v (.bool v2)],[]⟩:=by
 unfold bX at hr
 have T:=trivial
 apply Spec.fn Try.func20 rfl
 focus (simp[Try.f20]<;>exact rfl)
 focus
  refine wa_ T (g:=?_)
  obtain⟨v3,h1,hr⟩:=bs hr
  apply TO.cal (wn T) rfl yR (gP h1) rfl rfl rfl
  repeat exact sd T
  refine wa_ T (g:=?_)
  cases hr
  refine⟨.inr rfl,_,(ry T),?_⟩
  exact wr [] rfl .nil
 rfl
theorem nD{v1:Int}{v2:Int}{v3:Int}(hr:fM v1 v2=some (v3)):Spec (lim Try.prog) 21 [.v (.int .i64 v1),.v (.int .i64 v2)] ⟨[.v (.int .i64 v3)],[]⟩:=by
 unfold fM at hr
 have T:=trivial
 apply Spec.fn Try.func21 rfl
 focus (simp[Try.f21]<;>exact rfl)
 focus
  refine wa_ T (g:=?_)
  by_cases h1:v2=0
  ·rw[b8 h1] at hr
   cases hr
  ·rw[d5 h1] at hr
   have T:=an h1 T
   refine wa_ T (g:=?_)
   rcases ifs hr with⟨h2,hr⟩|⟨h2,hr⟩
   ·have T:=an h2 T
    refine wa_ T (g:=?_)
    cases hr
    refine⟨.inr rfl,_,(ry T),?_⟩
    exact wk_ T [] rfl .nil
   ·have T:=an h2 T
    refine wa_ T (g:=?_)
    cases hr
    refine⟨.inr rfl,_,(ry T),?_⟩
    exact wk_ T [] rfl .nil
 rfl
def y8:=an @ag3 <| an @ag36 <| an @ar22 <| an @ar23 <| an @cs3 <| an @cs36 <| an @rY <| an @nV <| an @xW <| an @nL <| an @ok3 <| an @ok36 <| an @so22 <| an @so23 <| an @st23 <| an @st36 <| an @zc23 <| @zc36
theorem aW{v1:Int}{v2:Int}{v3:Int}{v4:Int}{v5:Int}{v6:Int}{v7:Int}{v8:Int}{v9:Int}{v10:Int}{v11:Int}{v12:Bool}{v13:Int}{v14:Int}{v15:Int}{v16:Int}(hr:bC v1 v2 v3 v4 v5 v6 v7 v8 v9 v10=some (v11,v12,v13,v14,v15,v16)):Spec (lim Try.prog) 8 [.agg [.v (.int .i64 v1),.v (.int .i64 v2),.v (.int .i64 v3),.v (.int .i64 v4),.v (.int .i64 v5)],.agg [.v (.int .i64 v6),.v (.int .i64 v7),.v (.int .i64 v8),.v (.int .i64 v9)],.v (.int .i64 v10)] ⟨[.tuple [.v (.int .i64 v11),.v (.bool v12),.agg [.v (.int .i64 v13),.v (.int .i64 v14),.v (.int .i64 v15),.v (.int .i64 v16)]]],[]⟩:=by
 unfold bC at hr
 have T:=y8
 apply Spec.fn Try.func8 rfl
 focus (simp[Try.f8]<;>exact rfl)
 focus
  repeat (first|(with_reducible first|refine mv ?_|refine TO.nil ?_)|((with_reducible first|apply TO.bf|apply TO.asg|apply TO.al|apply TO.fa|apply TO.ia|apply TO.ld|apply TO.mv|apply TO.bin);(repeat (focus (show _=_;first|exact k1 rfl|exact k2 rfl|(simp only[zz,y8,Nat.reduceAdd,Nat.reduceMul,Nat.reduceLeDiff,Nat.reduceEqDiff,aE,aD,z5,Int.reduceToNat,Int.reduceLE,Int.reduceLT,Int.cast_ofNat_Int,tload,cP,cM,List.getElem?_map]<;>exact rfl)|exact rfl)));(with_reducible apply TO.here))|((with_reducible apply TX.region);(focus (simp only[zl]<;>exact rfl));(focus rfl);(try dsimp only))|fail)
  obtain⟨v17,h1,hr⟩:=bs hr
  apply TO.cal (wn T) rfl Ba (nD h1) rfl rfl rfl
  repeat exact sd T
  refine wa_ T (g:=?_)
  obtain⟨v18,h2,hr⟩:=bs hr
  apply TO.cal (wn T) rfl uQ (dN h2) rfl rfl rfl
  repeat exact sd T
  refine wa_ T (g:=?_)
  apply TO.pop1 (wn T) (jF rfl)
  repeat exact sd T
  refine wa_ T (g:=?_)
  apply TO.pop1 (wn T) (vL rfl rfl)
  repeat exact sd T
  refine wa_ T (g:=?_)
  apply TO.pop1 (wn T) (vM rfl rfl)
  repeat exact sd T
  refine wI T (g:=?_)
  cases hr
  refine⟨.inr rfl,_,(ry T),?_⟩
  exact wr [] rfl .nil
 rfl
end Go.Rex
namespace Go.Rex
open Go.Proofs
open Go Go.Rex Go.RowKit
set_option maxRecDepth 100000
set_option maxHeartbeats 1000000
def y9:=an @ag23 <| an @ag25 <| an @ag28 <| an @ag3 <| an @ag36 <| an @ar23 <| an @by23 <| an @cs23 <| an @cs25 <| an @cs28 <| an @cs3 <| an @cs36 <| an @eqg23 <| an @eqs23 <| an @nL <| an @ni66 <| an @ok23 <| an @ok25 <| an @ok28 <| an @ok3 <| an @ok36 <| an @so23 <| an @so66 <| an @st28 <| an @st36 <| an @zc23 <| an @zc28 <| an @zc36 <| an @gQ <| an @xK <| @xX
theorem jU{v1:Int}{v2:Int}{v3:Int}{v4:Int}{v5:Int}{v6:Int}{v7:Int}{v8:Int}{v9:Int}{v10:Int}(hr:dR v1 v2 v3 v4 v5 v6 v7=some (v8,v9,v10)):Spec (lim Try.prog) 7 [.agg [.v (.int .i64 v1),.v (.int .i64 v2),.v (.int .i64 v3),.v (.int .i64 v4),.v (.int .i64 v5)],.agg [.v (.int .i64 v6),.v (.int .i64 v7)]] ⟨[.tuple [.agg [.v (.int .i64 v8),.v (.int .i64 v9)],.v (.int .i64 v10)]],[]⟩:=by
 unfold dR at hr
 have T:=an y9 <| @e_ii.eq_1
 apply Spec.fn Try.func7 rfl
 focus (simp[Try.f7]<;>exact rfl)
 focus
  repeat (first|(with_reducible first|refine mv ?_|refine TO.nil ?_)|((with_reducible first|apply TO.bf|apply TO.al|apply TO.asg|apply TO.ia|apply TO.ld);(repeat (focus (show _=_;first|exact k1 rfl|exact k2 rfl|(simp only[zz,y9,e_ii,Nat.reduceAdd,Nat.reduceMul,Nat.reduceLeDiff,Nat.reduceEqDiff,aD,z5,Int.reduceToNat,Int.reduceLE,Int.reduceLT,Int.cast_ofNat_Int,tload,cP,cM,List.getElem?_map]<;>exact rfl)|exact rfl)));(with_reducible apply TO.here))|((with_reducible apply TX.region);(focus (simp only[zl]<;>exact rfl));(focus rfl);(try dsimp only))|fail)
  obtain⟨v11,h1,hr⟩:=bs hr
  apply TO.cal (wn T) rfl uQ (dN h1) rfl rfl rfl
  repeat exact sd T
  refine wa_ T (g:=?_)
  apply TO.pop1 (wn T) (jF rfl)
  repeat exact sd T
  refine wa_ T (g:=?_)
  rcases ifs hr with⟨h2,hr⟩|⟨h2,hr⟩
  ·have T:=an h2 T
   refine wI T (g:=?_)
   obtain⟨v12,h3,hr⟩:=bs hr
   apply TO.cal (wn T) rfl uQ (dN h3) rfl rfl rfl
   repeat exact sd T
   refine wa_ T (g:=?_)
   apply TO.pop1 (wn T) (jF rfl)
   repeat exact sd T
   refine wa_ T (g:=?_)
   rcases ifs hr with⟨h4,hr⟩|⟨h4,hr⟩
   ·have T:=an h4 T
    refine wA T (g:=?_)
    apply TO.bl e_ii ([(v6,v7)]:List (Int×Int)) (wn T) rfl (by simp only[zz,y9,e_ii,Nat.reduceAdd,Nat.reduceMul,Nat.reduceLeDiff,Nat.reduceEqDiff,tslice,tparts,h2,h4];exact rfl) rfl rfl
    repeat exact sd T
    refine wa_ T (g:=?_)
    obtain⟨v55,h25,hr⟩:=bs hr
    refine TX.loopE (step:=aQ v1 v2 v3 v4 v5) (x:=(0,0,v6,v7,([(v6,v7)]:List (Int×Int)),1)) h25 (fun (v13,v14,v15,v16,v17,v18)=>⟨.Z::.Z::.fptr true [.v (.int .i64 v1),.v (.int .i64 v2),.v (.int .i64 v3),.v (.int .i64 v4),.v (.int .i64 v5)] 0::.Z::.lptr 0 0 0::.Z::.lptr 1 0 0::.lsl 2 0 v17.length::.v (.int .i64 v18)::.Z::.Z::.Z::.Z::.Z::.Z::.Z::.Z::.Z::.Z::.Z::.Z::.Z::.Z::.Z::.Z::.Z::.Z::.Z::.Z::.Z::.Z::.Z::.Z::.Z::.Z::.Z::.Z::.Z::.Z::.Z::.Z::.Z::.Z::.Z::.Z::.Z::.Z::.Z::.Z::.Z::.Z::.Z::.Z::.Z::.Z::.Z::.Z::.Z::.Z::.Z::[],[.var [.v (.int .i64 0),.v (.int .i64 0)],.var [.v (.int .i64 v13),.v (.int .i64 v14),.v (.int .i64 v15),.v (.int .i64 v16)],.rows 2 (v17.map e_ii)]⟩) (fun e=>match e with|(.inl (v36,v37))=>(.ret,⟨.Z::.Z::.Z::.Z::.lptr 0 0 0::.v (.int .i64 0)::.Z::.Z::.Z::.Z::.Z::.Z::.Z::.Z::.Z::.Z::.Z::.Z::.Z::.Z::.Z::.Z::.Z::.Z::.Z::.Z::.Z::.Z::.Z::.Z::.Z::.Z::.Z::.Z::.Z::.Z::.Z::.Z::.Z::.Z::.Z::.Z::.Z::.Z::.Z::.Z::.Z::.Z::.Z::.Z::.Z::.Z::.Z::.Z::.Z::.Z::.Z::.Z::.Z::.Z::[],[.var [.v (.int .i64 v36),.v (.int .i64 v37)]]⟩)|(.inr _)=>(.exit 0,⟨.Z::.Z::.Z::.Z::.lptr 0 0 0::.Z::.Z::.Z::.Z::.Z::.Z::.Z::.Z::.Z::.Z::.Z::.Z::.Z::.Z::.Z::.Z::.Z::.Z::.Z::.Z::.Z::.Z::.Z::.Z::.Z::.Z::.Z::.Z::.Z::.Z::.Z::.Z::.Z::.Z::.Z::.Z::.Z::.Z::.Z::.Z::.Z::.Z::.Z::.Z::.Z::.Z::.Z::.Z::.Z::.Z::.Z::.Z::.Z::.Z::.Z::[],[.var [.v (.int .i64 0),.v (.int .i64 0)]]⟩)) ?_ ?_ ?_ ?_
    ·rintro⟨v13,v14,v15,v16,v17,v18⟩ v0 hr
     dsimp only[aQ] at hr
     try dsimp only
     refine wa_ T (g:=?_)
     rcases ifs hr with⟨h15,hr⟩|⟨h15,hr⟩
     ·have T:=an h15 T
      refine wA T (g:=?_)
      obtain⟨⟨v38,v39,v40,v41,v42,v43⟩,h16,hr⟩:=bs hr
      try dsimp only at hr
      apply TO.cal (wn T) rfl kF (aW h16) rfl rfl rfl
      repeat exact sd T
      refine wa_ T (g:=?_)
      obtain⟨v51,h23,hr⟩:=bs hr
      refine TX.loopE (step:=bS v17 v18 v42 v43) (x:=0) h23 (fun v44=>⟨.Z::.Z::.fptr true [.v (.int .i64 v1),.v (.int .i64 v2),.v (.int .i64 v3),.v (.int .i64 v4),.v (.int .i64 v5)] 0::.Z::.lptr 0 0 0::.Z::.lptr 1 0 0::.lsl 2 0 v17.length::.v (.int .i64 v18)::.v (.int .i64 v44)::.Z::.Z::.Z::.Z::.Z::.Z::.Z::.Z::.Z::.Z::.Z::.Z::.Z::.Z::.Z::.Z::.Z::.Z::.Z::.Z::.Z::.Z::.Z::.Z::.Z::.Z::.Z::.Z::.Z::.Z::.Z::.Z::.Z::.Z::.Z::.Z::.Z::.Z::.Z::.Z::.Z::.Z::.Z::.Z::.Z::.Z::.Z::.Z::.Z::.Z::[],[.var [.v (.int .i64 0),.v (.int .i64 0)],.var [.v (.int .i64 v40),.v (.int .i64 v41),.v (.int .i64 v42),.v (.int .i64 v43)],.rows 2 (v17.map e_ii)]⟩) (fun e=>match e with|(.inl (v47,v48))=>(.ret,⟨.Z::.Z::.Z::.Z::.lptr 0 0 0::.v (.int .i64 0)::.Z::.Z::.Z::.Z::.Z::.Z::.Z::.Z::.Z::.Z::.Z::.Z::.Z::.Z::.Z::.Z::.Z::.Z::.Z::.Z::.Z::.Z::.Z::.Z::.Z::.Z::.Z::.Z::.Z::.Z::.Z::.Z::.Z::.Z::.Z::.Z::.Z::.Z::.Z::.Z::.Z::.Z::.Z::.Z::.Z::.Z::.Z::.Z::.Z::.Z::.Z::.Z::.Z::.Z::[],[.var [.v (.int .i64 v47),.v (.int .i64 v48)]]⟩)|(.inr _)=>(.exit 2,⟨.Z::.Z::.fptr true [.v (.int .i64 v1),.v (.int .i64 v2),.v (.int .i64 v3),.v (.int .i64 v4),.v (.int .i64 v5)] 0::.Z::.lptr 0 0 0::.Z::.lptr 1 0 0::.lsl 2 0 v17.length::.v (.int .i64 v18)::.Z::.Z::.Z::.Z::.Z::.Z::.Z::.Z::.Z::.Z::.Z::.Z::.Z::.Z::.Z::.Z::.Z::.Z::.Z::.Z::.Z::.Z::.Z::.Z::.Z::.Z::.Z::.Z::.Z::.Z::.Z::.Z::.Z::.Z::.Z::.Z::.Z::.Z::.Z::.Z::.Z::.Z::.Z::.Z::.Z::.Z::.Z::.Z::.Z::.Z::.Z::[],[.var [.v (.int .i64 0),.v (.int .i64 0)],.var [.v (.int .i64 v40),.v (.int .i64 v41),.v (.int .i64 v42),.v (.int .i64 v43)],.rows 2 (v17.map e_ii)]⟩)) ?_ ?_ ?_ ?_
      ·rintro v44 v0 hr
       dsimp only[bS] at hr
       try dsimp only
       refine wc_ T (g:=?_)
       rcases ifs hr with⟨h20,hr⟩|⟨h20,hr⟩
       ·have T:=an h20 T
        refine wa_ T (g:=?_)
        obtain⟨⟨v49,v50⟩,h21,hr⟩:=bs hr
        try dsimp only at hr
        have T:=an (gx e_ii h21) T
        refine wA T (g:=?_)
        apply TD.pop1 (wn T) (oQ (X:=⟨[.int .i64 (v49),.int .i64 (v50)]⟩) (Y:=⟨[.int .i64 (v42),.int .i64 (v43)]⟩) rfl rfl rfl rfl rfl rfl rfl eqg23 eqs23 rfl)
        repeat exact sd T
        refine wa_ T (g:=?_)
        rcases ifs hr with⟨h22,hr⟩|⟨h22,hr⟩
        ·have T:=an h22 T
         refine wa_ T (g:=?_)
         cases hr
         refine⟨rfl,?_⟩
         exact wk_ T [some 0] rfl (rv .nil rfl)
        ·have T:=an h22 T
         refine wa_ T (g:=?_)
         cases hr
         refine⟨rfl,?_⟩
         exact wk_ T [some 0,some 1,some 2] rfl (rv (rv (.rows .nil rfl rfl) rfl) rfl)
       ·have T:=an h20 T
        refine wa_ T (g:=?_)
        cases hr
        refine⟨rfl,?_⟩
        exact wk_ T [some 0,some 1,some 2] rfl (rv (rv (.rows .nil rfl rfl) rfl) rfl)
      ·intro e h;rcases e with _|e<;>cases h
      ·try dsimp only
       rcases v51 with⟨v52,v53⟩|_
       ·try dsimp only at hr
        try dsimp only
        refine wa_ T (g:=?_)
        cases hr
        refine⟨rfl,?_⟩
        exact wk_ T [some 0] rfl (rv .nil rfl)
       ·try dsimp only at hr
        try dsimp only
        refine wA T (g:=?_)
        apply TO.bm e_ii ([(v42,v43)]:List (Int×Int)) (wn T) rfl (by simp only[zz,y9,e_ii,Nat.reduceAdd,Nat.reduceMul,Nat.reduceLeDiff,Nat.reduceEqDiff,tslice,tparts,h2,h4,h15];exact rfl) rfl
        repeat exact sd T
        refine wa_ T (g:=?_)
        obtain⟨v54,h24,hr⟩:=bs hr
        apply TO.ap (f:=e_ii) (xs:=v17) (ys:=([(v42,v43)]:List (Int×Int))) (wn T) rfl rfl (by first|rfl|simp only[List.length_set]) rfl rfl so66 ni66 zc23 rfl (by rw[by23];exact h24) (fun _=>⟨rfl,rfl,rfl⟩)
        repeat exact sd T
        refine wa_ T (g:=?_)
        cases hr
        refine⟨rfl,?_⟩
        exact wk_ T [some 0,some 1,some 2] rfl (rv (rv (.rows .nil rfl rfl) rfl) rfl)
      ·try dsimp only
       exact wk_ T [some 0,some 1,some 2] rfl (rv (rv (.rows .nil rfl rfl) rfl) rfl)
     ·have T:=an h15 T
      refine wa_ T (g:=?_)
      cases hr
      refine⟨rfl,?_⟩
      exact wk_ T [some 0] rfl (rv .nil rfl)
    ·intro e h;rcases e with _|e<;>cases h
    ·try dsimp only
     rcases v55 with⟨v56,v57⟩|_
     ·try dsimp only at hr
      try dsimp only
      refine wa_ T (g:=?_)
      cases hr
      refine⟨.inr rfl,_,(ry T),?_⟩
      exact wk_ T [] rfl .nil
     ·try dsimp only at hr
      try dsimp only
      refine wa_ T (g:=?_)
      cases hr
      refine⟨.inr rfl,_,(ry T),?_⟩
      exact wk_ T [] rfl .nil
    ·try dsimp only
     exact wk_ T [some 0,some 1,some 2] rfl (rv (rv (.rows .nil rfl rfl) rfl) rfl)
   ·have T:=an h4 T
    refine wa_ T (g:=?_)
    cases hr
    refine⟨.inr rfl,_,(ry T),?_⟩
    exact wk_ T [] rfl .nil
  ·have T:=an h2 T
   refine wa_ T (g:=?_)
   cases hr
   refine⟨.inr rfl,_,(ry T),?_⟩
   exact wk_ T [] rfl .nil
 rfl
end Go.Rex
namespace Go.Rex
open Go.Proofs
open Go Go.Rex Go.RowKit
set_option maxRecDepth 100000
theorem follows:Try.prog.follows .mixedOrders=true:=by decide +kernel
theorem awake_true:AwT Try.prog 4:=sG follows (k:=1000) (d:=50) (by decide +kernel)
end Go.Rex
namespace Go.Rex
open Go.Proofs
open Go Go.Rex Go.RowKit
set_option maxRecDepth 100000
set_option maxHeartbeats 4000000
def y10:=an @ag23 <| an @ag25 <| an @ag28 <| an @ag3 <| an @ag36 <| an @ar23 <| an @cs23 <| an @cs25 <| an @cs28 <| an @cs3 <| an @cs36 <| an @eqg23 <| an @eqg28 <| an @eqs23 <| an @eqs28 <| an @nV <| an @Bb <| an @Ar <| an @nL <| an @ok23 <| an @ok25 <| an @ok28 <| an @ok3 <| an @ok36 <| an @st23 <| an @st28 <| an @st36 <| an @zc23 <| an @zc28 <| an @zc36 <| @gQ
theorem gY{v1:Int}{v2:Int}{v3:Int}{v4:Int}{v5:Int}{v6:Int}{v7:Int}(hr:cT v1 v2 v3 v4 v5 v6 v7=some true){Fz:Nat→Prop}{h:List Blk}{vs:List Value}(hfz:FZ Fz h)(hargs:VLs Fz h noL [.agg [.v (.int .i64 v1),.v (.int .i64 v2),.v (.int .i64 v3),.v (.int .i64 v4),.v (.int .i64 v5)],.agg [.v (.int .i64 v6),.v (.int .i64 v7)]] vs)
 {B lo:Nat} {D:Nat→Prop} {m:NMap} {w:World} {args':List Value} (hrel:Rel B lo D m h w) (hlo:lo≤h.length) (hargs':VRs D m vs args'):Calls Try.prog 3 ⟨args'⟩ w (fun e w'=>e = .returned (.bool true)∧Below w.heap.size w w'):=by
 unfold cT at hr
 have T:=y10
 refine zP follows awake_true Try.func3 rfl (tm0:=.agg [.v (.int .i64 v1),.v (.int .i64 v2),.v (.int .i64 v3),.v (.int .i64 v4),.v (.int .i64 v5)]::.agg [.v (.int .i64 v6),.v (.int .i64 v7)]::.Z::.Z::.Z::.Z::.Z::.Z::.Z::.Z::.Z::.Z::.Z::.Z::.Z::.Z::.Z::.Z::.Z::.Z::.Z::.Z::.Z::.Z::.Z::.Z::.Z::.Z::.Z::.Z::.Z::.Z::.Z::.Z::.Z::.Z::.Z::.Z::.Z::.Z::.Z::.Z::.Z::.Z::.Z::.Z::.Z::.Z::.Z::.Z::.Z::.Z::.Z::.Z::.Z::.Z::.Z::.Z::.Z::.Z::.Z::.Z::.Z::.Z::.Z::.Z::.Z::.Z::.Z::.Z::.Z::.Z::.Z::.Z::.Z::.Z::.Z::.Z::.Z::.Z::.Z::.Z::.Z::.Z::.Z::.Z::.Z::.Z::.Z::.Z::.Z::.Z::.Z::.Z::.Z::.Z::[]) (by simp[Try.f3]<;>exact rfl) ?_ hfz hargs hrel hlo hargs'
 refine wb_ T (g:=?_)
 apply TO.cal (wn T) rfl Cb Spec.awake rfl rfl rfl
 repeat exact sd T
 refine wa_ T (g:=?_)
 apply TO.pop1 (wn T) (jF rfl)
 repeat exact sd T
 refine wA T (g:=?_)
 obtain⟨⟨v9,v10,v11⟩,h1,hr⟩:=bs hr
 try dsimp only at hr
 apply TO.cal (wn T) rfl Ca (Spec.ov (jK h1) (by decide)) rfl rfl rfl
 repeat exact sd T
 refine wA T (g:=?_)
 obtain⟨v12,h2,hr⟩:=bs hr
 apply TO.cal (wn T) rfl Bw (Spec.ov (gK h2) (by decide)) rfl rfl rfl
 repeat exact sd T
 refine wa_ T (g:=?_)
 rcases ifs hr with⟨h3,hr⟩|⟨h3,hr⟩
 ·have T:=an h3 T
  refine wA T (g:=?_)
  obtain⟨⟨v13,v14,v15⟩,h4,hr⟩:=bs hr
  try dsimp only at hr
  apply TO.cal (wn T) rfl Cg (Spec.ov (jU h4) (by decide)) rfl rfl rfl
  repeat exact sd T
  refine wa_ T (g:=?_)
  rcases ifs hr with⟨h5,hr⟩|⟨h5,hr⟩
  ·have T:=an h5 T
   refine wa_ T (g:=?_)
   exact lv T hr
  ·have T:=an h5 T
   refine wA T (g:=?_)
   apply TO.pop1 (wn T) (eZ (X:=⟨[.int .i64 (v9),.int .i64 (v10)]⟩) (Y:=⟨[.int .i64 (v13),.int .i64 (v14)]⟩) rfl rfl rfl rfl rfl rfl rfl eqg28 eqs28 rfl)
   repeat exact sd T
   refine wa_ T (g:=?_)
   rcases ifs hr with⟨h6,hr⟩|⟨h6,hr⟩
   ·have T:=an h6 T
    refine wa_ T (g:=?_)
    rcases ifs hr with⟨h7,hr⟩|⟨h7,hr⟩
    ·have T:=an h7 T
     refine wa_ T (g:=?_)
     exact lv T hr
    ·have T:=an h7 T
     refine wA T (g:=?_)
     rcases ifs hr with⟨h8,hr⟩|⟨h8,hr⟩
     ·have T:=an h8 T
      refine wa_ T (g:=?_)
      exact lv T hr
     ·have T:=an h8 T
      refine wA T (g:=?_)
      obtain⟨v71,h29,hr⟩:=bs hr
      refine TX.loopE (step:=aH v1 v2 v3 v4 v5 v9 v10) (x:=(0,0,v6,v7,0,0,0)) h29 (fun (v16,v17,v18,v19,v20,v21,v22)=>⟨.Z::.Z::.fptr true [.v (.int .i64 v1),.v (.int .i64 v2),.v (.int .i64 v3),.v (.int .i64 v4),.v (.int .i64 v5)] 0::.Z::.Z::.lptr 0 0 0::.Z::.Z::.Z::.lptr 1 0 0::.lptr 2 0 0::.v (.int .i64 v22)::.Z::.Z::.Z::.Z::.Z::.Z::.Z::.Z::.Z::.Z::.Z::.Z::.Z::.Z::.Z::.Z::.Z::.Z::.Z::.Z::.Z::.Z::.Z::.Z::.Z::.Z::.Z::.Z::.Z::.Z::.Z::.Z::.Z::.Z::.Z::.Z::.Z::.Z::.Z::.Z::.Z::.Z::.Z::.Z::.Z::.Z::.Z::.Z::.Z::.Z::.Z::.Z::.Z::.Z::.Z::.Z::.Z::.Z::.Z::.Z::.Z::.Z::.Z::.Z::.Z::.Z::.Z::.Z::.Z::.Z::.Z::.Z::.Z::.Z::.Z::.Z::.Z::.Z::.Z::.Z::.Z::.Z::.Z::.Z::[],[.var [.v (.int .i64 v9),.v (.int .i64 v10)],.var [.v (.int .i64 v16),.v (.int .i64 v17),.v (.int .i64 v18),.v (.int .i64 v19)],.var [.v (.int .i64 v20),.v (.int .i64 v21)]]⟩) (fun e=>match e with|(.inl _)=>(.ret,⟨.Z::.Z::.Z::.Z::.v (.bool false)::.Z::.Z::.Z::.Z::.Z::.Z::.Z::.Z::.Z::.Z::.Z::.Z::.Z::.Z::.Z::.Z::.Z::.Z::.Z::.Z::.Z::.Z::.Z::.Z::.Z::.Z::.Z::.Z::.Z::.Z::.Z::.Z::.Z::.Z::.Z::.Z::.Z::.Z::.Z::.Z::.Z::.Z::.Z::.Z::.Z::.Z::.Z::.Z::.Z::.Z::.Z::.Z::.Z::.Z::.Z::.Z::.Z::.Z::.Z::.Z::.Z::.Z::.Z::.Z::.Z::.Z::.Z::.Z::.Z::.Z::.Z::.Z::.Z::.Z::.Z::.Z::.Z::.Z::.Z::.Z::.Z::.Z::.Z::.Z::.Z::.Z::.Z::.Z::.Z::.Z::.Z::[],[]⟩)|(.inr _)=>(.exit 0,⟨.Z::.Z::.fptr true [.v (.int .i64 v1),.v (.int .i64 v2),.v (.int .i64 v3),.v (.int .i64 v4),.v (.int .i64 v5)] 0::.Z::.Z::.lptr 0 0 0::.Z::.Z::.Z::.Z::.Z::.Z::.Z::.Z::.Z::.Z::.Z::.Z::.Z::.Z::.Z::.Z::.Z::.Z::.Z::.Z::.Z::.Z::.Z::.Z::.Z::.Z::.Z::.Z::.Z::.Z::.Z::.Z::.Z::.Z::.Z::.Z::.Z::.Z::.Z::.Z::.Z::.Z::.Z::.Z::.Z::.Z::.Z::.Z::.Z::.Z::.Z::.Z::.Z::.Z::.Z::.Z::.Z::.Z::.Z::.Z::.Z::.Z::.Z::.Z::.Z::.Z::.Z::.Z::.Z::.Z::.Z::.Z::.Z::.Z::.Z::.Z::.Z::.Z::.Z::.Z::.Z::.Z::.Z::.Z::.Z::.Z::.Z::.Z::.Z::.Z::[],[.var [.v (.int .i64 v9),.v (.int .i64 v10)]]⟩)) ?_ ?_ ?_ ?_
      ·rintro⟨v16,v17,v18,v19,v20,v21,v22⟩ v0 hr
       dsimp only[aH] at hr
       try dsimp only
       refine wA T (g:=?_)
       rcases ifs hr with⟨h19,hr⟩|⟨h19,hr⟩
       ·have T:=an h19 T
        refine wA T (g:=?_)
        rcases ifs hr with⟨h20,hr⟩|⟨h20,hr⟩
        ·have T:=an h20 T
         refine wA T (g:=?_)
         rcases ifs hr with⟨h21,hr⟩|⟨h21,hr⟩
         ·have T:=an h21 T
          refine wA T (g:=?_)
          apply TO.pop1 (wn T) (eZ (X:=⟨[.int .i64 (v18),.int .i64 (v19)]⟩) (Y:=⟨[.int .i64 (v18),.int .i64 (v19)]⟩) rfl rfl rfl rfl rfl rfl rfl eqg23 eqs23 rfl)
          repeat exact sd T
          refine wa_ T (g:=?_)
          rcases ifs hr with⟨h22,hr⟩|⟨h22,hr⟩
          ·have T:=an h22 T
           refine wA T (g:=?_)
           obtain⟨⟨v47,v48,v49,v50,v51,v52⟩,h23,hr⟩:=bs hr
           try dsimp only at hr
           apply TO.cal (wn T) rfl kF (Spec.ov (aW h23) (by decide)) rfl rfl rfl
           repeat exact sd T
           refine wa_ T (g:=?_)
           cases hr
           refine⟨rfl,?_⟩
           exact wk_ T [some 0,some 1,some 2] rfl (rv (rv (rv .nil rfl) rfl) rfl)
          ·have T:=an h22 T
           refine wa_ T (g:=?_)
           cases hr
           refine⟨rfl,?_⟩
           exact wk_ T [] rfl .nil
         ·have T:=an h21 T
          refine wA T (g:=?_)
          obtain⟨⟨v53,v54,v55,v56,v57,v58⟩,h24,hr⟩:=bs hr
          try dsimp only at hr
          apply TO.cal (wn T) rfl kF (Spec.ov (aW h24) (by decide)) rfl rfl rfl
          repeat exact sd T
          refine wa_ T (g:=?_)
          cases hr
          refine⟨rfl,?_⟩
          exact wk_ T [some 0,some 1,some 2] rfl (rv (rv (rv .nil rfl) rfl) rfl)
        ·have T:=an h20 T
         refine wA T (g:=?_)
         rcases ifs hr with⟨h25,hr⟩|⟨h25,hr⟩
         ·have T:=an h25 T
          refine wA T (g:=?_)
          apply TO.pop1 (wn T) (eZ (X:=⟨[.int .i64 (v18),.int .i64 (v19)]⟩) (Y:=⟨[.int .i64 (v20),.int .i64 (v21)]⟩) rfl rfl rfl rfl rfl rfl rfl eqg23 eqs23 rfl)
          repeat exact sd T
          refine wa_ T (g:=?_)
          rcases ifs hr with⟨h26,hr⟩|⟨h26,hr⟩
          ·have T:=an h26 T
           refine wA T (g:=?_)
           obtain⟨⟨v59,v60,v61,v62,v63,v64⟩,h27,hr⟩:=bs hr
           try dsimp only at hr
           apply TO.cal (wn T) rfl kF (Spec.ov (aW h27) (by decide)) rfl rfl rfl
           repeat exact sd T
           refine wa_ T (g:=?_)
           cases hr
           refine⟨rfl,?_⟩
           exact wk_ T [some 0,some 1,some 2] rfl (rv (rv (rv .nil rfl) rfl) rfl)
          ·have T:=an h26 T
           refine wa_ T (g:=?_)
           cases hr
           refine⟨rfl,?_⟩
           exact wk_ T [] rfl .nil
         ·have T:=an h25 T
          refine wA T (g:=?_)
          obtain⟨⟨v65,v66,v67,v68,v69,v70⟩,h28,hr⟩:=bs hr
          try dsimp only at hr
          apply TO.cal (wn T) rfl kF (Spec.ov (aW h28) (by decide)) rfl rfl rfl
          repeat exact sd T
          refine wa_ T (g:=?_)
          cases hr
          refine⟨rfl,?_⟩
          exact wk_ T [some 0,some 1,some 2] rfl (rv (rv (rv .nil rfl) rfl) rfl)
       ·have T:=an h19 T
        refine wa_ T (g:=?_)
        cases hr
        refine⟨rfl,?_⟩
        exact wk_ T [some 0] rfl (rv .nil rfl)
      ·intro e h;rcases e with _|e<;>cases h
      ·try dsimp only
       rcases v71 with _|_
       ·try dsimp only at hr
        try dsimp only
        refine wa_ T (g:=?_)
        exact lv T hr
       ·try dsimp only at hr
        try dsimp only
        refine wA T (g:=?_)
        apply TO.pop1 (wn T) (eZ (X:=⟨[.int .i64 (v4),.int .i64 (v5)]⟩) (Y:=⟨[.int .i64 (0),.int .i64 (0)]⟩) rfl rfl rfl rfl rfl rfl rfl eqg23 eqs23 rfl)
        repeat exact sd T
        refine wa_ T (g:=?_)
        rcases ifs hr with⟨h30,hr⟩|⟨h30,hr⟩
        ·have T:=an h30 T
         refine wA T (g:=?_)
         apply TO.pop1 (wn T) (oQ (X:=⟨[.int .i64 (v9),.int .i64 (v10)]⟩) (Y:=⟨[.int .i64 (v9),.int .i64 (1)]⟩) rfl rfl rfl rfl rfl rfl rfl eqg28 eqs28 rfl)
         repeat exact sd T
         refine wa_ T (g:=?_)
         exact lv T hr
        ·have T:=an h30 T
         refine wa_ T (g:=?_)
         exact lv T hr
      ·try dsimp only
       exact wk_ T [some 0,some 2,some 3] rfl (rv (rv (rv .nil rfl) rfl) rfl)
   ·have T:=an h6 T
    refine wa_ T (g:=?_)
    exact lv T hr
 ·have T:=an h3 T
  refine wa_ T (g:=?_)
  rcases ifs hr with⟨h31,hr⟩|⟨h31,hr⟩
  ·have T:=an h31 T
   refine wa_ T (g:=?_)
   exact lv T hr
  ·have T:=an h31 T
   refine wA T (g:=?_)
   apply TO.pop1 (wn T) (eZ (X:=⟨[.int .i64 (v9),.int .i64 (v10)]⟩) (Y:=⟨[.int .i64 (0),.int .i64 (0)]⟩) rfl rfl rfl rfl rfl rfl rfl eqg28 eqs28 rfl)
   repeat exact sd T
   refine wa_ T (g:=?_)
   rcases ifs hr with⟨h32,hr⟩|⟨h32,hr⟩
   ·have T:=an h32 T
    refine wa_ T (g:=?_)
    rcases ifs hr with⟨h33,hr⟩|⟨h33,hr⟩
    ·have T:=an h33 T
     refine wa_ T (g:=?_)
     exact lv T hr
    ·have T:=an h33 T
     refine wA T (g:=?_)
     rcases ifs hr with⟨h34,hr⟩|⟨h34,hr⟩
     ·have T:=an h34 T
      refine wa_ T (g:=?_)
      exact lv T hr
     ·have T:=an h34 T
      refine wA T (g:=?_)
      obtain⟨v127,h55,hr⟩:=bs hr
      refine TX.loopE (step:=cZ v1 v2 v3 v4 v5 v9 v10) (x:=(0,0,v6,v7,0,0,0)) h55 (fun (v72,v73,v74,v75,v76,v77,v78)=>⟨.Z::.Z::.fptr true [.v (.int .i64 v1),.v (.int .i64 v2),.v (.int .i64 v3),.v (.int .i64 v4),.v (.int .i64 v5)] 0::.Z::.Z::.lptr 0 0 0::.Z::.Z::.Z::.lptr 1 0 0::.lptr 2 0 0::.v (.int .i64 v78)::.Z::.Z::.Z::.Z::.Z::.Z::.Z::.Z::.Z::.Z::.Z::.Z::.Z::.Z::.Z::.Z::.Z::.Z::.Z::.Z::.Z::.Z::.Z::.Z::.Z::.Z::.Z::.Z::.Z::.Z::.Z::.Z::.Z::.Z::.Z::.Z::.Z::.Z::.Z::.Z::.Z::.Z::.Z::.Z::.Z::.Z::.Z::.Z::.Z::.Z::.Z::.Z::.Z::.Z::.Z::.Z::.Z::.Z::.Z::.Z::.Z::.Z::.Z::.Z::.Z::.Z::.Z::.Z::.Z::.Z::.Z::.Z::.Z::.Z::.Z::.Z::.Z::.Z::.Z::.Z::.Z::.Z::.Z::.Z::[],[.var [.v (.int .i64 v9),.v (.int .i64 v10)],.var [.v (.int .i64 v72),.v (.int .i64 v73),.v (.int .i64 v74),.v (.int .i64 v75)],.var [.v (.int .i64 v76),.v (.int .i64 v77)]]⟩) (fun e=>match e with|(.inl _)=>(.ret,⟨.Z::.Z::.Z::.Z::.v (.bool false)::.Z::.Z::.Z::.Z::.Z::.Z::.Z::.Z::.Z::.Z::.Z::.Z::.Z::.Z::.Z::.Z::.Z::.Z::.Z::.Z::.Z::.Z::.Z::.Z::.Z::.Z::.Z::.Z::.Z::.Z::.Z::.Z::.Z::.Z::.Z::.Z::.Z::.Z::.Z::.Z::.Z::.Z::.Z::.Z::.Z::.Z::.Z::.Z::.Z::.Z::.Z::.Z::.Z::.Z::.Z::.Z::.Z::.Z::.Z::.Z::.Z::.Z::.Z::.Z::.Z::.Z::.Z::.Z::.Z::.Z::.Z::.Z::.Z::.Z::.Z::.Z::.Z::.Z::.Z::.Z::.Z::.Z::.Z::.Z::.Z::.Z::.Z::.Z::.Z::.Z::.Z::[],[]⟩)|(.inr _)=>(.exit 0,⟨.Z::.Z::.fptr true [.v (.int .i64 v1),.v (.int .i64 v2),.v (.int .i64 v3),.v (.int .i64 v4),.v (.int .i64 v5)] 0::.Z::.Z::.lptr 0 0 0::.Z::.Z::.Z::.Z::.Z::.Z::.Z::.Z::.Z::.Z::.Z::.Z::.Z::.Z::.Z::.Z::.Z::.Z::.Z::.Z::.Z::.Z::.Z::.Z::.Z::.Z::.Z::.Z::.Z::.Z::.Z::.Z::.Z::.Z::.Z::.Z::.Z::.Z::.Z::.Z::.Z::.Z::.Z::.Z::.Z::.Z::.Z::.Z::.Z::.Z::.Z::.Z::.Z::.Z::.Z::.Z::.Z::.Z::.Z::.Z::.Z::.Z::.Z::.Z::.Z::.Z::.Z::.Z::.Z::.Z::.Z::.Z::.Z::.Z::.Z::.Z::.Z::.Z::.Z::.Z::.Z::.Z::.Z::.Z::.Z::.Z::.Z::.Z::.Z::.Z::[],[.var [.v (.int .i64 v9),.v (.int .i64 v10)]]⟩)) ?_ ?_ ?_ ?_
      ·rintro⟨v72,v73,v74,v75,v76,v77,v78⟩ v0 hr
       dsimp only[cZ] at hr
       try dsimp only
       refine wA T (g:=?_)
       rcases ifs hr with⟨h45,hr⟩|⟨h45,hr⟩
       ·have T:=an h45 T
        refine wA T (g:=?_)
        rcases ifs hr with⟨h46,hr⟩|⟨h46,hr⟩
        ·have T:=an h46 T
         refine wA T (g:=?_)
         rcases ifs hr with⟨h47,hr⟩|⟨h47,hr⟩
         ·have T:=an h47 T
          refine wA T (g:=?_)
          apply TO.pop1 (wn T) (eZ (X:=⟨[.int .i64 (v74),.int .i64 (v75)]⟩) (Y:=⟨[.int .i64 (v74),.int .i64 (v75)]⟩) rfl rfl rfl rfl rfl rfl rfl eqg23 eqs23 rfl)
          repeat exact sd T
          refine wa_ T (g:=?_)
          rcases ifs hr with⟨h48,hr⟩|⟨h48,hr⟩
          ·have T:=an h48 T
           refine wA T (g:=?_)
           obtain⟨⟨v103,v104,v105,v106,v107,v108⟩,h49,hr⟩:=bs hr
           try dsimp only at hr
           apply TO.cal (wn T) rfl kF (Spec.ov (aW h49) (by decide)) rfl rfl rfl
           repeat exact sd T
           refine wa_ T (g:=?_)
           cases hr
           refine⟨rfl,?_⟩
           exact wk_ T [some 0,some 1,some 2] rfl (rv (rv (rv .nil rfl) rfl) rfl)
          ·have T:=an h48 T
           refine wa_ T (g:=?_)
           cases hr
           refine⟨rfl,?_⟩
           exact wk_ T [] rfl .nil
         ·have T:=an h47 T
          refine wA T (g:=?_)
          obtain⟨⟨v109,v110,v111,v112,v113,v114⟩,h50,hr⟩:=bs hr
          try dsimp only at hr
          apply TO.cal (wn T) rfl kF (Spec.ov (aW h50) (by decide)) rfl rfl rfl
          repeat exact sd T
          refine wa_ T (g:=?_)
          cases hr
          refine⟨rfl,?_⟩
          exact wk_ T [some 0,some 1,some 2] rfl (rv (rv (rv .nil rfl) rfl) rfl)
        ·have T:=an h46 T
         refine wA T (g:=?_)
         rcases ifs hr with⟨h51,hr⟩|⟨h51,hr⟩
         ·have T:=an h51 T
          refine wA T (g:=?_)
          apply TO.pop1 (wn T) (eZ (X:=⟨[.int .i64 (v74),.int .i64 (v75)]⟩) (Y:=⟨[.int .i64 (v76),.int .i64 (v77)]⟩) rfl rfl rfl rfl rfl rfl rfl eqg23 eqs23 rfl)
          repeat exact sd T
          refine wa_ T (g:=?_)
          rcases ifs hr with⟨h52,hr⟩|⟨h52,hr⟩
          ·have T:=an h52 T
           refine wA T (g:=?_)
           obtain⟨⟨v115,v116,v117,v118,v119,v120⟩,h53,hr⟩:=bs hr
           try dsimp only at hr
           apply TO.cal (wn T) rfl kF (Spec.ov (aW h53) (by decide)) rfl rfl rfl
           repeat exact sd T
           refine wa_ T (g:=?_)
           cases hr
           refine⟨rfl,?_⟩
           exact wk_ T [some 0,some 1,some 2] rfl (rv (rv (rv .nil rfl) rfl) rfl)
          ·have T:=an h52 T
           refine wa_ T (g:=?_)
           cases hr
           refine⟨rfl,?_⟩
           exact wk_ T [] rfl .nil
         ·have T:=an h51 T
          refine wA T (g:=?_)
          obtain⟨⟨v121,v122,v123,v124,v125,v126⟩,h54,hr⟩:=bs hr
          try dsimp only at hr
          apply TO.cal (wn T) rfl kF (Spec.ov (aW h54) (by decide)) rfl rfl rfl
          repeat exact sd T
          refine wa_ T (g:=?_)
          cases hr
          refine⟨rfl,?_⟩
          exact wk_ T [some 0,some 1,some 2] rfl (rv (rv (rv .nil rfl) rfl) rfl)
       ·have T:=an h45 T
        refine wa_ T (g:=?_)
        cases hr
        refine⟨rfl,?_⟩
        exact wk_ T [some 0] rfl (rv .nil rfl)
      ·intro e h;rcases e with _|e<;>cases h
      ·try dsimp only
       rcases v127 with _|_
       ·try dsimp only at hr
        try dsimp only
        refine wa_ T (g:=?_)
        exact lv T hr
       ·try dsimp only at hr
        try dsimp only
        refine wA T (g:=?_)
        apply TO.pop1 (wn T) (eZ (X:=⟨[.int .i64 (v4),.int .i64 (v5)]⟩) (Y:=⟨[.int .i64 (0),.int .i64 (0)]⟩) rfl rfl rfl rfl rfl rfl rfl eqg23 eqs23 rfl)
        repeat exact sd T
        refine wa_ T (g:=?_)
        rcases ifs hr with⟨h56,hr⟩|⟨h56,hr⟩
        ·have T:=an h56 T
         refine wA T (g:=?_)
         apply TO.pop1 (wn T) (oQ (X:=⟨[.int .i64 (v9),.int .i64 (v10)]⟩) (Y:=⟨[.int .i64 (v9),.int .i64 (1)]⟩) rfl rfl rfl rfl rfl rfl rfl eqg28 eqs28 rfl)
         repeat exact sd T
         refine wa_ T (g:=?_)
         exact lv T hr
        ·have T:=an h56 T
         refine wa_ T (g:=?_)
         exact lv T hr
      ·try dsimp only
       exact wk_ T [some 0,some 2,some 3] rfl (rv (rv (rv .nil rfl) rfl) rfl)
   ·have T:=an h32 T
    refine wa_ T (g:=?_)
    exact lv T hr
end Go.Rex
