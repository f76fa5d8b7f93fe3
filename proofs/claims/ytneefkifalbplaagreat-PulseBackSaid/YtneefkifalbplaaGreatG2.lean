/- Proofs that the program's functions do what these plain functions say. -/
import Derived.Test.YtneefkifalbplaaGreatGB
import Derived.Test.YtneefkifalbplaaGreatS
import Derived.Test.YtneefkifalbplaaGreatG1
set_option linter.unusedSimpArgs false
set_option linter.unusedVariables false
set_option linter.defProp false
namespace Go.Rex
open Go.Proofs
open Go Go.Rex Go.RowKit
set_option maxRecDepth 100000
set_option maxHeartbeats 200000
def y52:=an @ag87 <| an @cs87 <| an @ok87 <| an @so131 <| an @aV <| @kM
theorem rM{v1:(List (Nat×Nat))}{v2:Bool}{v3:Int}{v4:Int}(hr:iM v1 v2 v3=some (v4)):Spec (lim Tryz.prog) 37 [.list 1 [[.func 83 [] [.fptr true [.list 1 (v1.map e_c)] 0]],[.func 91 [] [.fptr true [.v (.bool v2)] 0,.fptr true [.v (.int .i64 v3)] 0]]]] ⟨[.v (.int .i64 v4)],[]⟩:=by
 unfold iM at hr
 have T:=an y52 <| @e_c.eq_1
 apply Spec.fn Tryz.func37 rfl
 focus (simp[Tryz.f37]<;>exact rfl)
 focus
  refine wc_ T (g:=?_)
  refine TX.unroll ?_
  refine wI T (g:=?_)
  obtain⟨v5,h1,hr⟩:=bs hr
  apply TO.cal (wn T) rfl Le (fA h1) rfl rfl rfl
  repeat exact sd T
  refine wa_ T (g:=?_)
  rcases ifs hr with⟨h2,hr⟩|⟨h2,hr⟩
  ·have T:=an h2 T
   refine wa_ T (g:=?_)
   cases hr
   refine⟨.inr rfl,_,(ry T),?_⟩
   exact wk_ T [] rfl .nil
  ·have T:=an h2 T
   refine wa_ T (g:=?_)
   refine TX.unroll ?_
   refine wI T (g:=?_)
   obtain⟨v6,h3,hr⟩:=bs hr
   apply TO.cal (wn T) rfl jU (aB h3) rfl rfl rfl
   repeat exact sd T
   refine wa_ T (g:=?_)
   rcases ifs hr with⟨h4,hr⟩|⟨h4,hr⟩
   ·have T:=an h4 T
    refine wa_ T (g:=?_)
    cases hr
    refine⟨.inr rfl,_,(ry T),?_⟩
    exact wk_ T [] rfl .nil
   ·have T:=an h4 T
    refine wa_ T (g:=?_)
    refine TX.unroll ?_
    refine wa_ T (g:=?_)
    cases hr
    refine⟨.inr rfl,_,(ry T),?_⟩
    exact wk_ T [] rfl .nil
 rfl
def y53:=an @cs87 <| an @so131 <| @zc87
theorem zU{v1:(List (Nat×Nat))}{v2:Int}{v3:(List (Nat×Nat))}{v4:Int}(hr:mE v1 v2=some (v3,v4)):Spec (lim Tryz.prog) 14 [.list 1 (v1.map e_c),.v (.int .i64 v2)] ⟨[.tuple [.lsl 0 0 v3.length,.v (.int .i64 v4)]],[.rows 1 (v3.map e_c)]⟩:=by
 unfold mE at hr
 have T:=an y53 <| @e_c.eq_1
 apply Spec.fn Tryz.func14 rfl
 focus (simp[Tryz.f14]<;>exact rfl)
 focus
  refine wa_ T (g:=?_)
  obtain⟨v5,h1,hr⟩:=bs hr
  apply TO.cal (wn T) rfl Fs (jK h1) rfl rfl rfl
  repeat exact sd T
  refine wa_ T (g:=?_)
  obtain⟨⟨v6,v7⟩,h2,hr⟩:=bs hr
  try dsimp only at hr
  apply TO.cal (wn T) rfl uC (cF h2) rfl rfl rfl
  repeat exact sd T
  refine we_ T (g:=?_)
  obtain⟨v8,h3,hr⟩:=bs hr
  apply TO.cal (wn T) rfl nL (rM h3) rfl rfl rfl
  repeat exact sd T
  refine wa_ T (g:=?_)
  rcases ifs hr with⟨h4,hr⟩|⟨h4,hr⟩
  ·have T:=an h4 T
   refine wa_ T (g:=?_)
   cases hr
   refine⟨.inr rfl,_,(ry T),?_⟩
   exact wk_ T [none] rfl (.virt .nil)
  ·have T:=an h4 T
   refine wa_ T (g:=?_)
   obtain⟨v9,h5,hr⟩:=bs hr
   apply TO.cal (wn T) rfl Ks (jJ h5) rfl rfl rfl
   repeat exact sd T
   refine wa_ T (g:=?_)
   obtain⟨v10,h6,hr⟩:=bs hr
   apply TO.lok (wn T) rfl Rb (mL h6) (vw T) rfl rfl (by simp[kL,cl,e_ff,e_c,e_i,e_ii])
   repeat exact sd T
   refine wa_ T (g:=?_)
   obtain⟨⟨v11,v12⟩,h7,hr⟩:=bs hr
   try dsimp only at hr
   apply TO.lok (wn T) rfl Fd (gM h7) (vw T) rfl rfl (by simp[kL,cl,e_ff,e_c,e_i,e_ii])
   repeat exact sd T
   refine wa_ T (g:=?_)
   cases hr
   refine⟨.inr rfl,_,(ry T),?_⟩
   exact wk_ T [some 2] rfl (.rows .nil rfl rfl)
 rfl
def y54:=an @ag3 <| an @ag84 <| an @cs3 <| an @cs84 <| an @ok3 <| an @ok84 <| an @zc3 <| @kM
theorem qT{v1:Int}{v2:(List Int)}{v3:Int}{v4:Int}(hr:eP v1 v2 v3=some (v4)):Spec (lim Tryz.prog) 114 [.agg [.v (.int .i64 v1),.list 1 (v2.map e_i)],.v (.int .i64 v3)] ⟨[.v (.int .i64 v4)],[]⟩:=by
 unfold eP at hr
 have T:=an y54 <| @e_i.eq_1
 apply Spec.fnM Tryz.func114 rfl
 focus (simp[Tryz.f114]<;>exact rfl)
 focus
  refine wB T (g:=?_)
  obtain⟨v5,h1,hr⟩:=bs hr
  apply TD.cal (wn T) rfl Uw (mJ h1) rfl rfl rfl
  repeat exact sd T
  refine wa_ T (g:=?_)
  obtain⟨⟨v6,v7,v8⟩,h2,hr⟩:=bs hr
  try dsimp only at hr
  apply TD.cal (wn T) rfl Tf (lB h2) rfl rfl rfl
  repeat exact sd T
  refine wa_ T (g:=?_)
  obtain⟨v13,h5,hr⟩:=bs hr
  refine TM.weak (s':=⟨.U::.U::.U::.fptr true [.v (.int .i64 v3)] 0::.U::.lptr 0 0 0::.U::.U::.U::.U::.U::.func 131 [] [.fptr true [.v (.int .i64 v6)] 0,.fptr true [.v (.int .i64 v7),.list 1 (v8.map e_i)] 0]::.U::.U::.U::.U::.U::.U::.U::[],[.var [.v (.int .i64 1)]]⟩) ?_ ?_
  ·exact wr [some 0] rfl (rv .nil rfl)
  refine TM.range (it:=fun {X}=>aH v6 v7 v8) (enc:=fun a0=>[.v (.int .i64 a0)]) h5 (fun v9=>[.var [.v (.int .i64 v9)]]) (fun v11=>[.var [.v (.int .i64 v11)]]) (fun _=>.exit 0) rfl rfl Ue gK rfl rfl rfl (fun _=>rfl) (fun _=>.inr ⟨_,rfl⟩) ?_ ?_
  ·rintro v12 v9 r hr
   dsimp only[cW] at hr
   show TX _ _ _ ⟨.U::.U::.U::.fptr true [.v (.int .i64 v3)] 0::.U::.lptr 0 0 0::.U::.U::.U::.U::.U::.func 131 [] [.fptr true [.v (.int .i64 v6)] 0,.fptr true [.v (.int .i64 v7),.list 1 (v8.map e_i)] 0]::.v (.int .i64 v12)::.U::.U::.U::.U::.U::.U::[],[.var [.v (.int .i64 v9)]]⟩ _
   refine wa_ T (g:=?_)
   refine⟨rfl,?_⟩
   repeat (first|(with_reducible first|refine mv ?_|refine m12 rfl ?_|refine TO.nil ?_)|((with_reducible first|apply TO.mv|apply TO.ld|apply TO.bin);(repeat (focus (show _=_;first|exact k1 rfl|exact k2 rfl|(simp only[zz,y54,e_i,Nat.reduceAdd,Nat.reduceMul,Nat.reduceLeDiff,Nat.reduceEqDiff,tload,dV,dN,List.getElem?_map]<;>exact rfl)|exact rfl)));(with_reducible apply TO.here))|((with_reducible apply TX.region);(focus (simp only[zl]<;>exact rfl));(focus rfl);(try dsimp only))|((with_reducible apply TX.cond_true);(focus rfl);(focus (first|rfl|(simp only[z1,zn];done))))|((with_reducible apply TX.cond_false);(focus rfl);(focus (first|rfl|(simp only[z1,zn];done))))|((with_reducible apply TM.cond_true);(focus rfl);(focus (first|rfl|(simp only[z1,zn];done))))|((with_reducible apply TM.cond_false);(focus rfl);(focus (first|rfl|(simp only[z1,zn];done))))|fail)
   rcases ifs hr with⟨h4,hr⟩|⟨h4,hr⟩
   ·repeat (first|(with_reducible first|refine mv ?_|refine m12 rfl ?_)|((with_reducible apply TX.cond_true);(focus rfl);(focus (first|rfl|(simp only[z1,zn,h4];done))))|((with_reducible apply TX.cond_false);(focus rfl);(focus (first|rfl|(simp only[z1,zn,h4];done))))|((with_reducible apply TM.cond_true);(focus rfl);(focus (first|rfl|(simp only[z1,zn,h4];done))))|((with_reducible apply TM.cond_false);(focus rfl);(focus (first|rfl|(simp only[z1,zn,h4];done))))|fail)
    cases hr
    refine⟨rfl,?_⟩
    have T:=an h4 T
    exact wk_ T [some 0] rfl (rv .nil rfl)
   ·repeat (first|(with_reducible first|refine mv ?_|refine m12 rfl ?_|refine TO.nil ?_)|((with_reducible first|apply TO.ld|apply TO.bin|apply TO.sv);(repeat (focus (show _=_;first|exact k1 rfl|exact k2 rfl|(simp only[zz,y54,e_i,Nat.reduceAdd,Nat.reduceMul,Nat.reduceLeDiff,Nat.reduceEqDiff,tload,dV,dN,List.getElem?_map,h4]<;>exact rfl)|exact rfl)));(with_reducible apply TO.here))|((with_reducible apply TX.region);(focus (simp only[zl]<;>exact rfl));(focus rfl);(try dsimp only))|((with_reducible apply TX.cond_true);(focus rfl);(focus (first|rfl|(simp only[z1,zn,h4];done))))|((with_reducible apply TX.cond_false);(focus rfl);(focus (first|rfl|(simp only[z1,zn,h4];done))))|((with_reducible apply TM.cond_true);(focus rfl);(focus (first|rfl|(simp only[z1,zn,h4];done))))|((with_reducible apply TM.cond_false);(focus rfl);(focus (first|rfl|(simp only[z1,zn,h4];done))))|fail)
    cases hr
    refine⟨rfl,?_⟩
    have T:=an h4 T
    exact wk_ T [some 0] rfl (rv .nil rfl)
  ·rcases v13 with v14|v15
   ·try dsimp only at hr
    try dsimp only
    refine wA T (g:=?_)
    cases hr
    refine⟨.inr rfl,_,(ry T),?_⟩
    exact wr [] rfl .nil
   ·try dsimp only at hr
    try dsimp only
    refine wA T (g:=?_)
    cases hr
    refine⟨.inr rfl,_,(ry T),?_⟩
    exact wr [] rfl .nil
 rfl
def y55:=an @ag84 <| an @cs84 <| @ok84
theorem pB{v1:Int}{v2:(List Int)}{v3:Bool}(hr:eZ v1 v2=some (v3)):Spec (lim Tryz.prog) 79 [.agg [.v (.int .i64 v1),.list 1 (v2.map e_i)]] ⟨[.v (.bool v3)],[]⟩:=by
 unfold eZ at hr
 have T:=an y55 <| @e_i.eq_1
 apply Spec.fn Tryz.func79 rfl
 focus (simp[Tryz.f79]<;>exact rfl)
 focus
  refine wB T (g:=?_)
  obtain⟨v4,h1,hr⟩:=bs hr
  apply TD.cal (wn T) rfl aBB (qT h1) rfl rfl rfl
  repeat exact sd T
  refine wA T (g:=?_)
  obtain⟨v5,h2,hr⟩:=bs hr
  apply TD.cal (wn T) rfl vH (aL h2) rfl rfl rfl
  repeat exact sd T
  refine wa_ T (g:=?_)
  cases hr
  refine⟨.inr rfl,_,(ry T),?_⟩
  exact wr [] rfl .nil
 rfl
def y56:=an @ag84 <| an @cs84 <| @ok84
theorem kP{v1:Int}{v2:(List Int)}{v3:Int}(hr:cM v1 v2=some (v3)):Spec (lim Tryz.prog) 50 [.agg [.v (.int .i64 v1),.list 1 (v2.map e_i)]] ⟨[.v (.int .i64 v3)],[]⟩:=by
 unfold cM at hr
 have T:=an y56 <| @e_i.eq_1
 apply Spec.fn Tryz.func50 rfl
 focus (simp[Tryz.f50]<;>exact rfl)
 focus
  refine wB T (g:=?_)
  obtain⟨v4,h1,hr⟩:=bs hr
  apply TO.cal (wn T) rfl aCW (pB h1) rfl rfl rfl
  repeat exact sd T
  refine wa_ T (g:=?_)
  apply TO.pop1 (wn T) (bS rfl)
  repeat exact sd T
  refine wa_ T (g:=?_)
  obtain⟨⟨v5,v6⟩,h2,hr⟩:=bs hr
  try dsimp only at hr
  apply TO.cal (wn T) rfl iF (aE h2) rfl rfl rfl
  repeat exact sd T
  refine wa_ T (g:=?_)
  obtain⟨v7,h3,hr⟩:=bs hr
  apply TO.cal (wn T) rfl jU (aB h3) rfl rfl rfl
  repeat exact sd T
  refine wa_ T (g:=?_)
  cases hr
  refine⟨.inr rfl,_,(ry T),?_⟩
  exact wr [] rfl .nil
 rfl
def y57:=an @ag32 <| an @ag84 <| an @cs84 <| an @ok84 <| @so32
theorem qR{v1:(List (Nat×Nat))}{v2:Int}{v3:(List Int)}{v4:Int}(hr:eN v1 v2 v3=some (v4)):Spec (lim Tryz.prog) 51 [.fptr true [.list 1 (v1.map e_c)] 0,.fptr true [.v (.int .i64 v2),.list 1 (v3.map e_i)] 0] ⟨[.v (.int .i64 v4)],[]⟩:=by
 unfold eN at hr
 have T:=an y57 <| an @e_c.eq_1 <| @e_i.eq_1
 apply Spec.fn Tryz.func51 rfl
 focus (simp[Tryz.f51]<;>exact rfl)
 focus
  refine wC T (g:=?_)
  obtain⟨v5,h1,hr⟩:=bs hr
  apply TD.cal (wn T) rfl vH (aL h1) rfl rfl rfl
  repeat exact sd T
  refine wa_ T (g:=?_)
  obtain⟨⟨v6,v7⟩,h2,hr⟩:=bs hr
  try dsimp only at hr
  apply TD.cal (wn T) rfl iF (aE h2) rfl rfl rfl
  repeat exact sd T
  refine wa_ T (g:=?_)
  obtain⟨v8,h3,hr⟩:=bs hr
  apply TD.cal (wn T) rfl jU (aB h3) rfl rfl rfl
  repeat exact sd T
  refine wa_ T (g:=?_)
  cases hr
  refine⟨.inr rfl,_,(ry T),?_⟩
  exact wr [] rfl .nil
 rfl
end Go.Rex
namespace Go.Rex
open Go.Proofs
open Go Go.Rex Go.RowKit
set_option maxRecDepth 100000
set_option maxHeartbeats 1000000
def y58:=an @ag87 <| an @cs87 <| an @ok87 <| an @so131 <| an @aV <| an @kM <| an @oH <| an @zM <| @Fc
theorem rN{v1:(List (Nat×Nat))}{v2:Int}{v3:(List Int)}{v4:Int}{v5:Int}{v6:(List Int)}{v7:Int}{v8:(List Int)}{v9:(List (Nat×Nat))}{v10:Int}{v11:(List Int)}{v12:Int}(hr:iV v1 v2 v3 v4 v5 v6 v7 v8 v9 v10 v11=some (v12)):Spec (lim Tryz.prog) 37 [.list 1 [[.func 83 [] [.fptr true [.list 1 (v1.map e_c)] 0]],[.func 39 [.agg [.v (.int .i64 v2),.list 1 (v3.map e_i)]] []],[.func 87 [] [.fptr true [.v (.int .i64 v4)] 0,.fptr true [.v (.int .i64 v5),.list 1 (v6.map e_i)] 0]],[.func 50 [.agg [.v (.int .i64 v7),.list 1 (v8.map e_i)]] []],[.func 51 [] [.fptr true [.list 1 (v9.map e_c)] 0,.fptr true [.v (.int .i64 v10),.list 1 (v11.map e_i)] 0]]]] ⟨[.v (.int .i64 v12)],[]⟩:=by
 unfold iV at hr
 have T:=an y58 <| an @e_c.eq_1 <| @e_i.eq_1
 apply Spec.fn Tryz.func37 rfl
 focus (simp[Tryz.f37]<;>exact rfl)
 focus
  refine wc_ T (g:=?_)
  refine TX.unroll ?_
  refine wI T (g:=?_)
  obtain⟨v13,h1,hr⟩:=bs hr
  apply TO.cal (wn T) rfl Le (fA h1) rfl rfl rfl
  repeat exact sd T
  refine wa_ T (g:=?_)
  rcases ifs hr with⟨h2,hr⟩|⟨h2,hr⟩
  ·have T:=an h2 T
   refine wa_ T (g:=?_)
   cases hr
   refine⟨.inr rfl,_,(ry T),?_⟩
   exact wk_ T [] rfl .nil
  ·have T:=an h2 T
   refine wa_ T (g:=?_)
   refine TX.unroll ?_
   refine wI T (g:=?_)
   obtain⟨v14,h3,hr⟩:=bs hr
   apply TO.cal (wn T) rfl Rj (iD h3) rfl rfl rfl
   repeat exact sd T
   refine wa_ T (g:=?_)
   rcases ifs hr with⟨h4,hr⟩|⟨h4,hr⟩
   ·have T:=an h4 T
    refine wa_ T (g:=?_)
    cases hr
    refine⟨.inr rfl,_,(ry T),?_⟩
    exact wk_ T [] rfl .nil
   ·have T:=an h4 T
    refine wa_ T (g:=?_)
    refine TX.unroll ?_
    refine wI T (g:=?_)
    obtain⟨v15,h5,hr⟩:=bs hr
    apply TO.cal (wn T) rfl Qx (cS h5) rfl rfl rfl
    repeat exact sd T
    refine wa_ T (g:=?_)
    rcases ifs hr with⟨h6,hr⟩|⟨h6,hr⟩
    ·have T:=an h6 T
     refine wa_ T (g:=?_)
     cases hr
     refine⟨.inr rfl,_,(ry T),?_⟩
     exact wk_ T [] rfl .nil
    ·have T:=an h6 T
     refine wa_ T (g:=?_)
     refine TX.unroll ?_
     refine wI T (g:=?_)
     obtain⟨v16,h7,hr⟩:=bs hr
     apply TO.cal (wn T) rfl Xu (kP h7) rfl rfl rfl
     repeat exact sd T
     refine wa_ T (g:=?_)
     rcases ifs hr with⟨h8,hr⟩|⟨h8,hr⟩
     ·have T:=an h8 T
      refine wa_ T (g:=?_)
      cases hr
      refine⟨.inr rfl,_,(ry T),?_⟩
      exact wk_ T [] rfl .nil
     ·have T:=an h8 T
      refine wa_ T (g:=?_)
      refine TX.unroll ?_
      refine wI T (g:=?_)
      obtain⟨v17,h9,hr⟩:=bs hr
      apply TO.cal (wn T) rfl aCo (qR h9) rfl rfl rfl
      repeat exact sd T
      refine wa_ T (g:=?_)
      rcases ifs hr with⟨h10,hr⟩|⟨h10,hr⟩
      ·have T:=an h10 T
       refine wa_ T (g:=?_)
       cases hr
       refine⟨.inr rfl,_,(ry T),?_⟩
       exact wk_ T [] rfl .nil
      ·have T:=an h10 T
       refine wa_ T (g:=?_)
       refine TX.unroll ?_
       refine wa_ T (g:=?_)
       cases hr
       refine⟨.inr rfl,_,(ry T),?_⟩
       exact wk_ T [] rfl .nil
 rfl
end Go.Rex
namespace Go.Rex
open Go.Proofs
open Go Go.Rex Go.RowKit
set_option maxRecDepth 100000
set_option maxHeartbeats 200000
def y59:=@ag94
theorem qS{v1:Int}{v2:Int}{v3:(List Int)}{v4:Int}(hr:eH v1 v2 v3=some (v4)):Spec (lim Tryz.prog) 53 [.v (.int .i64 v1),.v (.int .i64 v2),.fptr true [.func 88 [] [.fptr true [.list 1 (v3.map e_i)] 0]] 0] ⟨[.v (.int .i64 v4)],[]⟩:=by
 unfold eH at hr
 have T:=an y59 <| @e_i.eq_1
 apply Spec.fn Tryz.func53 rfl
 focus (simp[Tryz.f53]<;>exact rfl)
 focus
  refine wA T (g:=?_)
  obtain⟨v5,h1,hr⟩:=bs hr
  apply TO.cal (wn T) rfl aAa (gT h1) rfl rfl rfl
  repeat exact sd T
  refine wa_ T (g:=?_)
  cases hr
  refine⟨.inr rfl,_,(ry T),?_⟩
  exact wr [] rfl .nil
 rfl
end Go.Rex
namespace Go.Rex
open Go.Proofs
open Go Go.Rex Go.RowKit
set_option maxRecDepth 100000
set_option maxHeartbeats 1000000
def y60:=an @ag115 <| an @by115 <| an @cs115 <| an @ok115 <| an @so90 <| an @zc115 <| @aV
theorem tG{v1:(List (Int×Int))}{v2:(List Int)}{v3:(List (Int×Int))}(hr:fG v1 v2=some (v3)):Spec (lim Tryz.prog) 46 [.list 2 (v1.map e_ii),.func 53 [] [.fptr true [.func 88 [] [.fptr true [.list 1 (v2.map e_i)] 0]] 0]] ⟨[.lsl 0 0 v3.length],[.rows 2 (v3.map e_ii)]⟩:=by
 unfold fG at hr
 have T:=an y60 <| an @e_i.eq_1 <| @e_ii.eq_1
 apply Spec.fn Tryz.func46 rfl
 focus (simp[Tryz.f46]<;>exact rfl)
 focus
  refine wc_ T (g:=?_)
  obtain⟨v4,h1,hr⟩:=bs hr
  apply TO.mk e_ii h1 (wn T) rfl rfl so90 zc115 by115 rfl rfl rfl
  repeat exact sd T
  refine wc_ T (g:=?_)
  obtain⟨v52,h30,hr⟩:=bs hr
  refine TX.loopE (step:=dF v1 v2 v4) (x:=(v4,0)) h30 (fun (v5,v6)=>⟨.list 2 (v1.map e_ii)::.func 53 [] [.fptr true [.func 88 [] [.fptr true [.list 1 (v2.map e_i)] 0]] 0]::.U::.U::.U::.lsl 0 0 v5.length::.U::.U::.U::.U::.U::.U::.U::.v (.int .i64 (v4.length:Int))::.v (.int .i64 v6)::.U::.U::.U::.U::.U::.U::.U::.U::.U::.U::.U::.U::.U::.U::.U::.U::.U::.U::.U::.U::.U::.U::.U::.U::.U::.U::[],[.rows 2 (v5.map e_ii)]⟩) (fun v29=>(.exit 0,⟨.U::.U::.U::.U::.U::.lsl 0 0 v29.length::.U::.U::.U::.U::.U::.U::.U::.U::.U::.U::.U::.U::.U::.U::.U::.U::.U::.U::.U::.U::.U::.U::.U::.U::.U::.U::.U::.U::.U::.U::.U::.U::.U::.U::.U::[],[.rows 2 (v29.map e_ii)]⟩)) ?_ ?_ ?_ ?_
  ·rintro⟨v5,v6⟩ v0 hr
   dsimp only[dF] at hr
   try dsimp only
   refine wa_ T (g:=?_)
   rcases ifs hr with⟨h16,hr⟩|⟨h16,hr⟩
   ·have T:=an h16 T
    refine wc_ T (g:=?_)
    obtain⟨v51,h29,hr⟩:=bs hr
    refine TX.loopE (step:=bL v1 v2 v6) (x:=(v5,0)) h29 (fun (v30,v31)=>⟨.list 2 (v1.map e_ii)::.func 53 [] [.fptr true [.func 88 [] [.fptr true [.list 1 (v2.map e_i)] 0]] 0]::.U::.U::.U::.lsl 0 0 v30.length::.v (.int .i64 v6)::.U::.U::.U::.U::.U::.U::.v (.int .i64 (v4.length:Int))::.v (.int .i64 v6)::.U::.U::.list 2 (v1.map e_ii)::.v (.int .i64 (v1.length:Int))::.v (.int .i64 v31)::.U::.U::.U::.U::.U::.U::.U::.U::.U::.U::.U::.U::.U::.U::.U::.U::.U::.U::.U::.U::.U::[],[.rows 2 (v30.map e_ii)]⟩) (fun v41=>(.exit 2,⟨.list 2 (v1.map e_ii)::.func 53 [] [.fptr true [.func 88 [] [.fptr true [.list 1 (v2.map e_i)] 0]] 0]::.U::.U::.U::.lsl 0 0 v41.length::.U::.U::.U::.U::.U::.U::.U::.v (.int .i64 (v4.length:Int))::.v (.int .i64 v6)::.U::.U::.U::.U::.U::.U::.U::.U::.U::.U::.U::.U::.U::.U::.U::.U::.U::.U::.U::.U::.U::.U::.U::.U::.U::.U::[],[.rows 2 (v41.map e_ii)]⟩)) ?_ ?_ ?_ ?_
    ·rintro⟨v30,v31⟩ v0 hr
     dsimp only[bL] at hr
     try dsimp only
     refine wa_ T (g:=?_)
     rcases ifs hr with⟨h23,hr⟩|⟨h23,hr⟩
     ·have T:=an h23 T
      refine wa_ T (g:=?_)
      obtain⟨⟨v42,v43⟩,h24,hr⟩:=bs hr
      try dsimp only at hr
      have T:=an (gx e_ii h24) T
      refine wA T (g:=?_)
      obtain⟨⟨v44,v45⟩,h25,hr⟩:=bs hr
      try dsimp only at hr
      have h25m:=eD (f:=e_ii) h25
      have h25l:=gC h25
      try simp only[List.length_set] at h25l
      have h25a:=gB h25
      have T:=an h25m T
      have T:=an h25l T
      have T:=an h25a T
      refine wA T (g:=?_)
      obtain⟨v46,h26,hr⟩:=bs hr
      apply TD.cal (wn T) rfl aCg (qS h26) rfl rfl rfl
      repeat exact sd T
      refine wa_ T (g:=?_)
      obtain⟨⟨v47,v48⟩,h27,hr⟩:=bs hr
      try dsimp only at hr
      apply TD.cal (wn T) rfl aAd (lD h27) rfl rfl rfl
      repeat exact sd T
      refine wa_ T (g:=?_)
      obtain⟨⟨v49,v50⟩,h28,hr⟩:=bs hr
      try dsimp only at hr
      apply TD.cal (wn T) rfl Rp (kK h28) rfl rfl rfl
      repeat exact sd T
      refine wa_ T (g:=?_)
      apply TD.sr e_ii v30 (v44,v45) (v49,v50) h25a (wn T) rfl rfl rfl rfl rfl ok115 (by rw[cs115];rfl) rfl rfl rfl rfl rfl
      repeat exact sd T
      refine wa_ T (g:=?_)
      cases hr
      refine⟨rfl,?_⟩
      exact wk_ T [some 0] rfl (.rows .nil rfl rfl)
     ·have T:=an h23 T
      refine wa_ T (g:=?_)
      cases hr
      refine⟨rfl,?_⟩
      exact wk_ T [some 0] rfl (.rows .nil rfl rfl)
    ·intro e h;cases h
    ·try dsimp only
     refine wa_ T (g:=?_)
     cases hr
     refine⟨rfl,?_⟩
     exact wk_ T [some 0] rfl (.rows .nil rfl rfl)
    ·try dsimp only
     exact wk_ T [some 0] rfl (.rows .nil rfl rfl)
   ·have T:=an h16 T
    refine wa_ T (g:=?_)
    cases hr
    refine⟨rfl,?_⟩
    exact wk_ T [some 0] rfl (.rows .nil rfl rfl)
  ·intro e h;cases h
  ·try dsimp only
   refine wa_ T (g:=?_)
   cases hr
   refine⟨.inr rfl,_,(ry T),?_⟩
   exact wr [some 0] rfl (.rows .nil rfl rfl)
  ·try dsimp only
   exact wr [some 0] rfl (.rows .nil rfl rfl)
 rfl
end Go.Rex
namespace Go.Rex
open Go.Proofs
open Go Go.Rex Go.RowKit
set_option maxRecDepth 100000
set_option maxHeartbeats 200000
def y61:=an @ag115 <| an @ag3 <| an @by115 <| an @cs115 <| an @xG <| an @xK <| an @ni90 <| an @ok115 <| an @so90 <| an @st115 <| an @zc115 <| @aV
theorem yS{v1:(List (Int×Int))}{v2:Int}{v3:(List (Int×Int))}{v4:Bool}(hr:kX v1 v2=some (v3,v4)):Spec (lim Tryz.prog) 54 [.list 2 (v1.map e_ii),.v (.int .i64 v2)] ⟨[.tuple [.lsl 0 0 v3.length,.v (.bool v4)]],[.rows 2 (v3.map e_ii)]⟩:=by
 unfold kX at hr
 have T:=an y61 <| @e_ii.eq_1
 apply Spec.fn Tryz.func54 rfl
 focus (simp[Tryz.f54]<;>exact rfl)
 focus
  refine wc_ T (g:=?_)
  apply TX.vt (α:=(Int×Int)) e_ii 6 2 rfl
  repeat exact sd T
  with_reducible apply TX.here
  refine wa_ T (g:=?_)
  obtain⟨v14,h13,hr⟩:=bs hr
  refine TX.loopE (step:=gY v1 v2) (x:=(([]:List (Int×Int)),0)) h13 (fun (v5,v6)=>⟨.U::.v (.int .i64 v2)::.U::.U::.U::.U::.lsl 0 0 v5.length::.U::.U::.list 2 (v1.map e_ii)::.v (.int .i64 (v1.length:Int))::.v (.int .i64 v6)::.U::.U::.U::.U::.U::.U::.U::.U::.U::.U::.U::.U::.U::.U::.U::.U::.U::.U::.U::.U::.U::.U::.U::.U::.U::.U::.U::.U::.U::[],[.rows 2 (v5.map e_ii)]⟩) (fun e=>match e with|(.inl _)=>(.ret,⟨.U::.U::.U::.U::.v (.slice none 0 0)::.v (.bool false)::.U::.U::.U::.U::.U::.U::.U::.U::.U::.U::.U::.U::.U::.U::.U::.U::.U::.U::.U::.U::.U::.U::.U::.U::.U::.U::.U::.U::.U::.U::.U::.U::.U::.U::.U::[],[]⟩)|(.inr v10)=>(.exit 0,⟨.U::.U::.U::.U::.U::.U::.lsl 0 0 v10.length::.U::.U::.U::.U::.U::.U::.U::.U::.U::.U::.U::.U::.U::.U::.U::.U::.U::.U::.U::.U::.U::.U::.U::.U::.U::.U::.U::.U::.U::.U::.U::.U::.U::.U::[],[.rows 2 (v10.map e_ii)]⟩)) ?_ ?_ ?_ ?_
  ·rintro⟨v5,v6⟩ v0 hr
   dsimp only[gY] at hr
   try dsimp only
   refine wa_ T (g:=?_)
   rcases ifs hr with⟨h7,hr⟩|⟨h7,hr⟩
   ·have T:=an h7 T
    refine wa_ T (g:=?_)
    obtain⟨⟨v11,v12⟩,h8,hr⟩:=bs hr
    try dsimp only at hr
    have h8m:=eD (f:=e_ii) h8
    have h8l:=gC h8
    try simp only[List.length_set] at h8l
    have h8a:=gB h8
    have T:=an h8m T
    have T:=an h8l T
    have T:=an h8a T
    refine wA T (g:=?_)
    by_cases h9:v2=0
    ·rw[a9 h9] at hr
     cases hr
    ·rw[b6 h9] at hr
     have T:=an h9 T
     refine wa_ T (g:=?_)
     rcases ifs hr with⟨h10,hr⟩|⟨h10,hr⟩
     ·have T:=an h10 T
      refine wa_ T (g:=?_)
      cases hr
      refine⟨rfl,?_⟩
      exact wk_ T [] rfl .nil
     ·have T:=an h10 T
      refine wA T (g:=?_)
      rcases ifs hr with⟨h11,hr⟩|⟨h11,hr⟩
      ·have T:=an h11 T
       refine wa_ T (g:=?_)
       cases hr
       refine⟨rfl,?_⟩
       exact wk_ T [] rfl .nil
      ·have T:=an h11 T
       refine wA T (g:=?_)
       apply TD.bm e_ii ([((IntKind.i64.wrap (v11.tdiv v2)),(IntKind.i64.wrap (v12.tdiv v2)))]:List (Int×Int)) (wn T) rfl (by simp only[zz,y61,e_ii,Nat.reduceAdd,Nat.reduceMul,Nat.reduceLeDiff,Nat.reduceEqDiff,tslice,tparts,h7,h8m,h8l,h8a,h9,h10,h11];exact rfl) rfl
       repeat exact sd T
       refine wa_ T (g:=?_)
       obtain⟨v13,h12,hr⟩:=bs hr
       apply TD.ap (f:=e_ii) (xs:=v5) (ys:=([((IntKind.i64.wrap (v11.tdiv v2)),(IntKind.i64.wrap (v12.tdiv v2)))]:List (Int×Int))) (wn T) rfl rfl (by first|rfl|simp only[List.length_set]) rfl rfl so90 ni90 zc115 rfl (by rw[by115];exact h12) (fun _=>⟨rfl,rfl,rfl⟩) rfl
       repeat exact sd T
       refine wa_ T (g:=?_)
       cases hr
       refine⟨rfl,?_⟩
       exact wk_ T [some 0] rfl (.rows .nil rfl rfl)
   ·have T:=an h7 T
    refine wa_ T (g:=?_)
    cases hr
    refine⟨rfl,?_⟩
    exact wk_ T [some 0] rfl (.rows .nil rfl rfl)
  ·intro e h;rcases e with _|e<;>cases h
  ·try dsimp only
   rcases v14 with _|v15
   ·try dsimp only at hr
    try dsimp only
    refine wa_ T (g:=?_)
    cases hr
    refine⟨.inr rfl,_,(ry T),?_⟩
    exact wr [none] rfl (.virt .nil)
   ·try dsimp only at hr
    try dsimp only
    refine wa_ T (g:=?_)
    cases hr
    refine⟨.inr rfl,_,(ry T),?_⟩
    exact wr [some 0] rfl (.rows .nil rfl rfl)
  ·try dsimp only
   exact wr [some 0] rfl (.rows .nil rfl rfl)
 rfl
end Go.Rex
namespace Go.Rex
open Go.Proofs
open Go Go.Rex Go.RowKit
set_option maxRecDepth 100000
set_option maxHeartbeats 1000000
def y62:=an @ag26 <| an @ag32 <| an @ag84 <| an @cs26 <| an @cs84 <| an @cs87 <| an @cs94 <| an @ok26 <| an @ok84 <| an @ok94 <| an @so131 <| an @st84 <| an @zc84 <| an @zc87 <| @zc94
theorem qQ{v1:(List (Nat×Nat))}{v2:Int}{v3:(List Int)}{v4:Int}{v5:(List (Nat×Nat))}{v6:Int}(hr:jY v1 v2 v3 v4=some (v5,v6)):Spec (lim Tryz.prog) 15 [.list 1 (v1.map e_c),.agg [.v (.int .i64 v2),.list 1 (v3.map e_i)],.v (.int .i64 v4)] ⟨[.tuple [.lsl 0 0 v5.length,.v (.int .i64 v6)]],[.rows 1 (v5.map e_c)]⟩:=by
 unfold jY at hr
 have T:=an y62 <| an @e_c.eq_1 <| @e_i.eq_1
 apply Spec.fn Tryz.func15 rfl
 focus (simp[Tryz.f15]<;>exact rfl)
 focus
  refine wB T (g:=?_)
  obtain⟨v7,h1,hr⟩:=bs hr
  apply TD.cal (wn T) rfl Fs (jK h1) rfl rfl rfl
  repeat exact sd T
  refine wA T (g:=?_)
  obtain⟨⟨v8,v9,v10⟩,h2,hr⟩:=bs hr
  try dsimp only at hr
  apply TD.cal (wn T) rfl Ly (cZ h2) rfl rfl rfl
  repeat exact sd T
  refine wA T (g:=?_)
  apply TD.frz 0 rfl rfl
  repeat exact sd T
  refine we_ T (g:=?_)
  obtain⟨v11,h3,hr⟩:=bs hr
  apply TD.cal (wn T) rfl nL (rN h3) rfl rfl rfl
  repeat exact sd T
  refine wa_ T (g:=?_)
  rcases ifs hr with⟨h4,hr⟩|⟨h4,hr⟩
  ·have T:=an h4 T
   refine wa_ T (g:=?_)
   cases hr
   refine⟨.inr rfl,_,(ry T),?_⟩
   exact wk_ T [none] rfl (.virt .nil)
  ·have T:=an h4 T
   refine wA T (g:=?_)
   obtain⟨v12,h5,hr⟩:=bs hr
   apply TO.cal (wn T) rfl aAR (lC h5) rfl rfl rfl
   repeat exact sd T
   refine wA T (g:=?_)
   obtain⟨v13,h6,hr⟩:=bs hr
   apply TO.cal (wn T) rfl Ks (jJ h6) rfl rfl rfl
   repeat exact sd T
   refine wa_ T (g:=?_)
   apply TO.frz 1 rfl rfl
   repeat exact sd T
   refine wa_ T (g:=?_)
   obtain⟨v14,h7,hr⟩:=bs hr
   apply TO.lok (wn T) rfl aAt (tG h7) (vw T) rfl rfl (by simp[kL,cl,e_ff,e_c,e_i,e_ii])
   repeat exact sd T
   refine wA T (g:=?_)
   obtain⟨v15,h8,hr⟩:=bs hr
   apply TO.cal (wn T) rfl vH (aL h8) rfl rfl rfl
   repeat exact sd T
   refine wa_ T (g:=?_)
   obtain⟨⟨v16,v17⟩,h9,hr⟩:=bs hr
   try dsimp only at hr
   apply TO.lok (wn T) rfl aCt (yS h9) (vw T) rfl rfl (by simp[kL,cl,e_ff,e_c,e_i,e_ii])
   repeat exact sd T
   refine wa_ T (g:=?_)
   apply TO.pop1 (wn T) (bS rfl)
   repeat exact sd T
   refine wa_ T (g:=?_)
   rcases ifs hr with⟨h10,hr⟩|⟨h10,hr⟩
   ·have T:=an h10 T
    refine wa_ T (g:=?_)
    obtain⟨⟨v18,v19⟩,h11,hr⟩:=bs hr
    try dsimp only at hr
    apply TO.lok (wn T) rfl Fd (gM h11) (vw T) rfl rfl (by simp[kL,cl,e_ff,e_c,e_i,e_ii])
    repeat exact sd T
    refine wa_ T (g:=?_)
    cases hr
    refine⟨.inr rfl,_,(ry T),?_⟩
    exact wk_ T [some 5] rfl (.rows .nil rfl rfl)
   ·have T:=an h10 T
    refine wa_ T (g:=?_)
    cases hr
    refine⟨.inr rfl,_,(ry T),?_⟩
    exact wk_ T [none] rfl (.virt .nil)
 rfl
end Go.Rex
namespace Go.Rex
open Go.Proofs
open Go Go.Rex Go.RowKit
set_option maxRecDepth 100000
set_option maxHeartbeats 200000
def y63:=@ex92
theorem yE{v1:Nat}{v2:Nat}{v3:Nat}{v4:Nat}{v5:Bool}(hr:pN v1 v2 v3 v4=some (v5)):Spec (lim Tryz.prog) 55 [.v (.complex .f64 v1 v2),.v (.complex .f64 v3 v4)] ⟨[.v (.bool v5)],[]⟩:=by
 unfold pN at hr
 have T:=y63
 apply Spec.fn Tryz.func55 rfl
 focus (simp[Tryz.f55]<;>exact rfl)
 focus
  refine wa_ T (g:=?_)
  apply TO.pop1 (wn T) (vV rfl)
  repeat exact sd T
  refine wa_ T (g:=?_)
  obtain⟨v6,h1,hr⟩:=bs hr
  apply TO.fb (wn T) rfl ex92 (by simp only[z1,z3,zl]<;>rfl) h1 rfl
  repeat exact sd T
  refine wa_ T (g:=?_)
  apply TO.pop1 (wn T) (vV rfl)
  repeat exact sd T
  refine wa_ T (g:=?_)
  obtain⟨v7,h2,hr⟩:=bs hr
  apply TO.fb (wn T) rfl ex92 (by simp only[z1,z3,zl]<;>rfl) h2 rfl
  repeat exact sd T
  refine wa_ T (g:=?_)
  rcases ifs hr with⟨h3,hr⟩|⟨h3,hr⟩
  ·have T:=an h3 T
   refine wa_ T (g:=?_)
   apply TO.pop1 (wn T) (vE rfl)
   repeat exact sd T
   refine wa_ T (g:=?_)
   obtain⟨v8,h4,hr⟩:=bs hr
   apply TO.fb (wn T) rfl ex92 (by simp only[z1,z3,zl]<;>rfl) h4 rfl
   repeat exact sd T
   refine wa_ T (g:=?_)
   apply TO.pop1 (wn T) (vE rfl)
   repeat exact sd T
   refine wa_ T (g:=?_)
   obtain⟨v9,h5,hr⟩:=bs hr
   apply TO.fb (wn T) rfl ex92 (by simp only[z1,z3,zl]<;>rfl) h5 rfl
   repeat exact sd T
   refine wa_ T (g:=?_)
   cases hr
   refine⟨.inr rfl,_,(ry T),?_⟩
   exact wk_ T [] rfl .nil
  ·have T:=an h3 T
   refine wa_ T (g:=?_)
   cases hr
   refine⟨.inr rfl,_,(ry T),?_⟩
   exact wk_ T [] rfl .nil
 rfl
def y64:=an @ag59 <| an @cs59 <| an @ok59 <| an @so32 <| an @un105 <| an @un59 <| @aV
theorem oU{v1:(List (Nat×Nat))}{v2:(List (Nat×Nat))}{v3:Bool}(hr:fD v1 v2=some (v3)):Spec (lim Tryz.prog) 16 [.list 1 (v1.map e_c),.list 1 (v2.map e_c)] ⟨[.v (.bool v3)],[]⟩:=by
 unfold fD at hr
 have T:=an y64 <| @e_c.eq_1
 apply Spec.fn Tryz.func16 rfl
 focus (simp[Tryz.f16]<;>exact rfl)
 focus
  refine wc_ T (g:=?_)
  rcases ifs hr with⟨h1,hr⟩|⟨h1,hr⟩
  ·have T:=an h1 T
   refine wa_ T (g:=?_)
   cases hr
   refine⟨.inr rfl,_,(ry T),?_⟩
   exact wk_ T [] rfl .nil
  ·have T:=an h1 T
   refine wa_ T (g:=?_)
   obtain⟨v23,h20,hr⟩:=bs hr
   refine TX.loopE (step:=eT v1 v2) (x:=0) h20 (fun v4=>⟨.list 1 (v1.map e_c)::.list 1 (v2.map e_c)::.U::.U::.U::.v (.int .i64 v4)::.U::.U::.U::.U::.U::.U::.U::.U::.U::.U::.U::.U::.U::.U::.U::.U::.U::.U::.U::.U::.U::.U::.U::[],[]⟩) (fun e=>match e with|(.inl _)=>(.ret,⟨.U::.U::.U::.U::.v (.bool false)::.U::.U::.U::.U::.U::.U::.U::.U::.U::.U::.U::.U::.U::.U::.U::.U::.U::.U::.U::.U::.U::.U::.U::.U::[],[]⟩)|(.inr _)=>(.exit 0,⟨.U::.U::.U::.U::.U::.U::.U::.U::.U::.U::.U::.U::.U::.U::.U::.U::.U::.U::.U::.U::.U::.U::.U::.U::.U::.U::.U::.U::.U::[],[]⟩)) ?_ ?_ ?_ ?_
   ·rintro v4 v0 hr
    dsimp only[eT] at hr
    try dsimp only
    refine wc_ T (g:=?_)
    rcases ifs hr with⟨h11,hr⟩|⟨h11,hr⟩
    ·have T:=an h11 T
     refine wa_ T (g:=?_)
     obtain⟨⟨v14,v15⟩,h12,hr⟩:=bs hr
     try dsimp only at hr
     have T:=an (gx e_c h12) T
     refine wA T (g:=?_)
     obtain⟨v16,h13,hr⟩:=bs hr
     obtain⟨v17,h14,hr⟩:=bs hr
     apply TD.pop1 (wn T) (Cy un59 un105 rfl h13 h14)
     repeat exact sd T
     refine wa_ T (g:=?_)
     obtain⟨⟨v18,v19⟩,h15,hr⟩:=bs hr
     try dsimp only at hr
     have T:=an (gx e_c h15) T
     refine wA T (g:=?_)
     obtain⟨v20,h16,hr⟩:=bs hr
     obtain⟨v21,h17,hr⟩:=bs hr
     apply TD.pop1 (wn T) (Cy un59 un105 rfl h16 h17)
     repeat exact sd T
     refine wa_ T (g:=?_)
     obtain⟨v22,h18,hr⟩:=bs hr
     apply TD.cal (wn T) rfl aB7 (yE h18) rfl rfl rfl
     repeat exact sd T
     refine wa_ T (g:=?_)
     apply TD.pop1 (wn T) (bS rfl)
     repeat exact sd T
     refine wa_ T (g:=?_)
     rcases ifs hr with⟨h19,hr⟩|⟨h19,hr⟩
     ·have T:=an h19 T
      refine wa_ T (g:=?_)
      cases hr
      refine⟨rfl,?_⟩
      exact wk_ T [] rfl .nil
     ·have T:=an h19 T
      refine wa_ T (g:=?_)
      cases hr
      refine⟨rfl,?_⟩
      exact wk_ T [] rfl .nil
    ·have T:=an h11 T
     refine wa_ T (g:=?_)
     cases hr
     refine⟨rfl,?_⟩
     exact wk_ T [] rfl .nil
   ·intro e h;rcases e with _|e<;>cases h
   ·try dsimp only
    rcases v23 with _|_
    ·try dsimp only at hr
     try dsimp only
     refine wa_ T (g:=?_)
     cases hr
     refine⟨.inr rfl,_,(ry T),?_⟩
     exact wk_ T [] rfl .nil
    ·try dsimp only at hr
     try dsimp only
     refine wa_ T (g:=?_)
     cases hr
     refine⟨.inr rfl,_,(ry T),?_⟩
     exact wk_ T [] rfl .nil
   ·try dsimp only
    exact wk_ T [] rfl .nil
 rfl
def y65:=an @oH <| @Py
theorem rT{v1:Int}{v2:Bool}(hr:gU v1=some (v2)):Spec (lim Tryz.prog) 57 [.v (.int .i64 v1)] ⟨[.v (.bool v2)],[]⟩:=by
 unfold gU at hr
 have T:=y65
 apply Spec.fn Tryz.func57 rfl
 focus (simp[Tryz.f57]<;>exact rfl)
 focus
  refine wa_ T (g:=?_)
  obtain⟨v4,h7,hr⟩:=bs hr
  refine TX.loopE (step:=dS v1) (x:=2) h7 (fun v3=>⟨.v (.int .i64 v1)::.U::.U::.v (.int .i64 v3)::.U::.U::.U::.U::.U::.U::.U::.U::.U::.U::.U::[],[]⟩) (fun e=>match e with|(.inl _)=>(.ret,⟨.U::.U::.v (.bool false)::.U::.U::.U::.U::.U::.U::.U::.U::.U::.U::.U::.U::[],[]⟩)|(.inr _)=>(.exit 0,⟨.U::.U::.U::.U::.U::.U::.U::.U::.U::.U::.U::.U::.U::.U::.U::[],[]⟩)) ?_ ?_ ?_ ?_
  ·rintro v3 v0 hr
   dsimp only[dS] at hr
   try dsimp only
   refine wa_ T (g:=?_)
   rcases ifs hr with⟨h4,hr⟩|⟨h4,hr⟩
   ·have T:=an h4 T
    refine wa_ T (g:=?_)
    by_cases h5:v3=0
    ·rw[a9 h5] at hr
     cases hr
    ·rw[b6 h5] at hr
     have T:=an h5 T
     refine wa_ T (g:=?_)
     rcases ifs hr with⟨h6,hr⟩|⟨h6,hr⟩
     ·have T:=an h6 T
      refine wa_ T (g:=?_)
      cases hr
      refine⟨rfl,?_⟩
      exact wk_ T [] rfl .nil
     ·have T:=an h6 T
      refine wa_ T (g:=?_)
      cases hr
      refine⟨rfl,?_⟩
      exact wk_ T [] rfl .nil
   ·have T:=an h4 T
    refine wa_ T (g:=?_)
    cases hr
    refine⟨rfl,?_⟩
    exact wk_ T [] rfl .nil
  ·intro e h;rcases e with _|e<;>cases h
  ·try dsimp only
   rcases v4 with _|_
   ·try dsimp only at hr
    try dsimp only
    refine wa_ T (g:=?_)
    cases hr
    refine⟨.inr rfl,_,(ry T),?_⟩
    exact wr [] rfl .nil
   ·try dsimp only at hr
    try dsimp only
    refine wa_ T (g:=?_)
    cases hr
    refine⟨.inr rfl,_,(ry T),?_⟩
    exact wr [] rfl .nil
  ·try dsimp only
   exact wr [] rfl .nil
 rfl
def y66:=an @ag3 <| an @pQ <| @vR
theorem aX{v1:Int}{v2:Int}{v3:Int}{v4:Int}{v5:Int}{v6:Int}(hr:aS v1 v2 v3 v4 v5=some (v6)):Spec (lim Tryz.prog) 99 [.agg [.v (.int .i64 v1),.v (.int .i64 v2),.v (.int .i64 v3)],.v (.int .i64 v4),.v (.int .i64 v5)] ⟨[.v (.int .i64 v6)],[]⟩:=by
 unfold aS at hr
 have T:=y66
 apply Spec.fn Tryz.func99 rfl
 focus (simp[Tryz.f99]<;>exact rfl)
 focus
  refine wB T (g:=?_)
  by_cases h1:v1=0
  ·rw[a9 h1] at hr
   cases hr
  ·rw[b6 h1] at hr
   have T:=an h1 T
   refine wa_ T (g:=?_)
   cases hr
   refine⟨.inr rfl,_,(ry T),?_⟩
   exact wr [] rfl .nil
 rfl
def y67:=an @ag108 <| an @cs108 <| @ok108
theorem oN{v1:Int}{v2:Int}{v3:Int}{v4:Int}{v5:Int}{v6:Int}(hr:eJ v1 v2 v3 v4 v5=some (v6)):Spec (lim Tryz.prog) 93 [.agg [.v (.int .i64 v1),.v (.int .i64 v2),.v (.int .i64 v3)],.v (.int .i64 v4),.v (.int .i64 v5)] ⟨[.v (.int .i64 v6)],[]⟩:=by
 unfold eJ at hr
 have T:=y67
 apply Spec.fn Tryz.func93 rfl
 focus (simp[Tryz.f93]<;>exact rfl)
 focus
  refine wb_ T (g:=?_)
  obtain⟨v17,h11,hr⟩:=bs hr
  refine TX.loopE (step:=cN v1 v2 v3) (x:=(v4,v5,1)) h11 (fun (v7,v8,v9)=>⟨.U::.v (.int .i64 v7)::.v (.int .i64 v8)::.fptr true [.v (.int .i64 v1),.v (.int .i64 v2),.v (.int .i64 v3)] 0::.U::.U::.U::.v (.int .i64 v9)::.U::.U::.U::.U::.U::.U::.U::.U::.U::.U::.U::.U::.U::.U::.U::.U::[],[]⟩) (fun v13=>(.exit 0,⟨.U::.U::.U::.U::.U::.U::.U::.v (.int .i64 v13)::.U::.U::.U::.U::.U::.U::.U::.U::.U::.U::.U::.U::.U::.U::.U::.U::[],[]⟩)) ?_ ?_ ?_ ?_
  ·rintro⟨v7,v8,v9⟩ v0 hr
   dsimp only[cN] at hr
   try dsimp only
   refine wa_ T (g:=?_)
   rcases ifs hr with⟨h6,hr⟩|⟨h6,hr⟩
   ·have T:=an h6 T
    refine wa_ T (g:=?_)
    rcases ifs hr with⟨h7,hr⟩|⟨h7,hr⟩
    ·have T:=an h7 T
     refine wA T (g:=?_)
     obtain⟨v14,h8,hr⟩:=bs hr
     apply TO.cal (wn T) rfl wH (aX h8) rfl rfl rfl
     repeat exact sd T
     refine wA T (g:=?_)
     obtain⟨v15,h9,hr⟩:=bs hr
     apply TO.cal (wn T) rfl wH (aX h9) rfl rfl rfl
     repeat exact sd T
     refine wa_ T (g:=?_)
     cases hr
     refine⟨rfl,?_⟩
     exact wk_ T [] rfl .nil
    ·have T:=an h7 T
     refine wA T (g:=?_)
     obtain⟨v16,h10,hr⟩:=bs hr
     apply TO.cal (wn T) rfl wH (aX h10) rfl rfl rfl
     repeat exact sd T
     refine wa_ T (g:=?_)
     cases hr
     refine⟨rfl,?_⟩
     exact wk_ T [] rfl .nil
   ·have T:=an h6 T
    refine wa_ T (g:=?_)
    cases hr
    refine⟨rfl,?_⟩
    exact wk_ T [] rfl .nil
  ·intro e h;cases h
  ·try dsimp only
   refine wa_ T (g:=?_)
   cases hr
   refine⟨.inr rfl,_,(ry T),?_⟩
   exact wr [] rfl .nil
  ·try dsimp only
   exact wr [] rfl .nil
 rfl
def y68:=an @ag108 <| an @ag3 <| an @cs108 <| an @pQ <| an @Bx <| an @wS <| an @ok108 <| @kM
theorem mH{v1:Int}{v2:Int}{v3:Int}{v4:Bool}(hr:cP v1 v2 v3=some (v4)):Spec (lim Tryz.prog) 94 [.agg [.v (.int .i64 v1),.v (.int .i64 v2),.v (.int .i64 v3)]] ⟨[.v (.bool v4)],[]⟩:=by
 unfold cP at hr
 have T:=y68
 apply Spec.fn Tryz.func94 rfl
 focus (simp[Tryz.f94]<;>exact rfl)
 focus
  refine wB T (g:=?_)
  obtain⟨⟨v11,v12⟩,h7,hr⟩:=bs hr
  try dsimp only at hr
  refine TX.loopE (step:=cJ v1 v2 v3) (x:=(v2,1)) h7 (fun (v5,v6)=>⟨.U::.fptr true [.v (.int .i64 v1),.v (.int .i64 v2),.v (.int .i64 v3)] 0::.U::.v (.int .i64 v5)::.v (.int .i64 v6)::.U::.U::.U::.U::.U::.U::.U::.U::.U::.U::.U::.U::.U::.U::.U::.U::.U::.U::.U::.U::.U::.U::.U::.U::.U::.U::.U::.U::.U::[],[]⟩) (fun (v8,v9)=>(.exit 0,⟨.U::.fptr true [.v (.int .i64 v1),.v (.int .i64 v2),.v (.int .i64 v3)] 0::.U::.v (.int .i64 v8)::.v (.int .i64 v9)::.U::.U::.U::.U::.U::.U::.U::.U::.U::.U::.U::.U::.U::.U::.U::.U::.U::.U::.U::.U::.U::.U::.U::.U::.U::.U::.U::.U::.U::[],[]⟩)) ?_ ?_ ?_ ?_
  ·rintro⟨v5,v6⟩ v0 hr
   dsimp only[cJ] at hr
   try dsimp only
   refine wa_ T (g:=?_)
   rcases ifs hr with⟨h4,hr⟩|⟨h4,hr⟩
   ·have T:=an h4 T
    refine wA T (g:=?_)
    rcases ifs hr with⟨h5,hr⟩|⟨h5,hr⟩
    ·have T:=an h5 T
     refine wA T (g:=?_)
     obtain⟨v10,h6,hr⟩:=bs hr
     apply TO.cal (wn T) rfl wH (aX h6) rfl rfl rfl
     repeat exact sd T
     refine wa_ T (g:=?_)
     cases hr
     refine⟨rfl,?_⟩
     exact wk_ T [] rfl .nil
    ·have T:=an h5 T
     refine wa_ T (g:=?_)
     cases hr
     refine⟨rfl,?_⟩
     exact wk_ T [] rfl .nil
   ·have T:=an h4 T
    refine wa_ T (g:=?_)
    cases hr
    refine⟨rfl,?_⟩
    exact wk_ T [] rfl .nil
  ·intro e h;cases h
  ·try dsimp only
   refine wa_ T (g:=?_)
   rcases ifs hr with⟨h8,hr⟩|⟨h8,hr⟩
   ·have T:=an h8 T
    refine wA T (g:=?_)
    cases hr
    refine⟨.inr rfl,_,(ry T),?_⟩
    exact wk_ T [] rfl .nil
   ·have T:=an h8 T
    refine wa_ T (g:=?_)
    cases hr
    refine⟨.inr rfl,_,(ry T),?_⟩
    exact wk_ T [] rfl .nil
  ·try dsimp only
   exact wr [] rfl .nil
 rfl
def y69:=an @ag108 <| an @cs108 <| an @cs3 <| an @pQ <| an @Bx <| an @ok108 <| an @ok3 <| an @st108 <| an @st47 <| an @zc108 <| an @zc47 <| @kM
theorem Ag{v1:Int}{v2:Int}{v3:Int}{v4:Int}{v5:Int}(hr:qW v1 v2=some (v3,v4,v5)):Spec (lim Tryz.prog) 58 [.v (.int .i64 v1),.v (.int .i64 v2)] ⟨[.agg [.v (.int .i64 v3),.v (.int .i64 v4),.v (.int .i64 v5)]],[]⟩:=by
 unfold qW at hr
 have T:=y69
 apply Spec.fn Tryz.func58 rfl
 focus (simp[Tryz.f58]<;>exact rfl)
 focus
  refine wa_ T (g:=?_)
  obtain⟨v12,h9,hr⟩:=bs hr
  refine TX.loopE (step:=jB v1 v2) (x:=1) h9 (fun v6=>⟨.v (.int .i64 v1)::.v (.int .i64 v2)::.U::.U::.lptr 0 0 0::.v (.int .i64 v6)::.U::.U::.U::.U::.U::.U::.U::.U::.U::.U::.U::.U::.U::.U::.U::.U::.U::.U::.U::[],[.var [.v (.int .i64 0),.v (.int .i64 0),.v (.int .i64 0)]]⟩) (fun v9=>(.ret,⟨.U::.U::.U::.U::.lptr 0 0 0::.U::.U::.U::.U::.U::.U::.U::.U::.U::.U::.U::.U::.U::.U::.U::.U::.U::.U::.U::.U::[],[.var [.v (.int .i64 v2),.v (.int .i64 v9),.v (.int .i64 v1)]]⟩)) ?_ ?_ ?_ ?_
  ·rintro v6 v0 hr
   dsimp only[jB] at hr
   try dsimp only
   refine wA T (g:=?_)
   by_cases h5:v1=0
   ·rw[a9 h5] at hr
    cases hr
   ·rw[b6 h5] at hr
    have T:=an h5 T
    refine wa_ T (g:=?_)
    obtain⟨v10,h6,hr⟩:=bs hr
    apply TD.cal (wn T) rfl aAc (oN h6) rfl rfl rfl
    repeat exact sd T
    refine wA T (g:=?_)
    obtain⟨v11,h7,hr⟩:=bs hr
    apply TO.cal (wn T) rfl aAT (mH h7) rfl rfl rfl
    repeat exact sd T
    refine wa_ T (g:=?_)
    rcases ifs hr with⟨h8,hr⟩|⟨h8,hr⟩
    ·have T:=an h8 T
     refine wA T (g:=?_)
     cases hr
     refine⟨rfl,?_⟩
     exact wk_ T [some 0] rfl (rv .nil rfl)
    ·have T:=an h8 T
     refine wa_ T (g:=?_)
     cases hr
     refine⟨rfl,?_⟩
     exact wk_ T [some 0] rfl (rv .nil rfl)
  ·intro e h;cases h
  ·try dsimp only
   refine wa_ T (g:=?_)
   cases hr
   refine⟨.inr rfl,_,(ry T),?_⟩
   exact wr [] rfl .nil
  ·try dsimp only
   exact wr [some 0] rfl (rv .nil rfl)
 rfl
end Go.Rex
namespace Go.Rex
open Go.Proofs
open Go Go.Rex Go.RowKit
set_option maxRecDepth 100000
set_option maxHeartbeats 1000000
def y70:=an @ag47 <| an @cs47 <| an @cs87 <| an @pQ <| an @ok47 <| an @so131 <| an @st47 <| an @zc47 <| @zc87
theorem yC{v1:Int}{v2:Int}{v3:Int}{v4:Int}{v5:Int}{v6:Int}(hr:mV v1 v2=some (v3,v4,v5,v6)):Spec (lim Tryz.prog) 18 [.v (.int .i64 v1),.v (.int .i64 v2)] ⟨[.tuple [.agg [.v (.int .i64 v3),.v (.int .i64 v4),.v (.int .i64 v5)],.v (.int .i64 v6)]],[]⟩:=by
 unfold mV at hr
 have T:=y70
 apply Spec.fn Tryz.func18 rfl
 focus (simp[Tryz.f18]<;>exact rfl)
 focus
  refine wa_ T (g:=?_)
  obtain⟨⟨v7,v8⟩,h1,hr⟩:=bs hr
  try dsimp only at hr
  apply TO.cal (wn T) rfl uC (cF h1) rfl rfl rfl
  repeat exact sd T
  refine wa_ T (g:=?_)
  obtain⟨⟨v9,v10⟩,h2,hr⟩:=bs hr
  try dsimp only at hr
  apply TO.cal (wn T) rfl uC (cF h2) rfl rfl rfl
  repeat exact sd T
  refine we_ T (g:=?_)
  obtain⟨v11,h3,hr⟩:=bs hr
  apply TO.cal (wn T) rfl nL (bB h3) rfl rfl rfl
  repeat exact sd T
  refine wa_ T (g:=?_)
  rcases ifs hr with⟨h4,hr⟩|⟨h4,hr⟩
  ·have T:=an h4 T
   refine wa_ T (g:=?_)
   cases hr
   refine⟨.inr rfl,_,(ry T),?_⟩
   exact wk_ T [] rfl .nil
  ·have T:=an h4 T
   refine wa_ T (g:=?_)
   obtain⟨v12,h5,hr⟩:=bs hr
   apply TO.cal (wn T) rfl Ry (oE h5) rfl rfl rfl
   repeat exact sd T
   refine wa_ T (g:=?_)
   obtain⟨v25,h14,hr⟩:=bs hr
   refine TX.loopE (step:=fJ v1) (x:=(IntKind.i64.wrap (v2+v12))) h14 (fun v13=>⟨.v (.int .i64 v1)::.U::.U::.U::.lptr 0 0 0::.U::.U::.v (.int .i64 v13)::.U::.U::.U::.U::.U::.U::.U::.U::.U::.U::.U::.U::.U::.U::.U::.U::.U::.U::.U::.U::.U::.U::.U::.U::.U::.U::.U::.U::[],[.var [.v (.int .i64 0),.v (.int .i64 0),.v (.int .i64 0)]]⟩) (fun e=>match e with|(.inl (v18,v19,v20))=>(.ret,⟨.U::.U::.U::.U::.lptr 0 0 0::.v (.int .i64 0)::.U::.U::.U::.U::.U::.U::.U::.U::.U::.U::.U::.U::.U::.U::.U::.U::.U::.U::.U::.U::.U::.U::.U::.U::.U::.U::.U::.U::.U::.U::[],[.var [.v (.int .i64 v18),.v (.int .i64 v19),.v (.int .i64 v20)]]⟩)|(.inr _)=>(.exit 0,⟨.U::.U::.U::.U::.lptr 0 0 0::.U::.U::.U::.U::.U::.U::.U::.U::.U::.U::.U::.U::.U::.U::.U::.U::.U::.U::.U::.U::.U::.U::.U::.U::.U::.U::.U::.U::.U::.U::.U::[],[.var [.v (.int .i64 0),.v (.int .i64 0),.v (.int .i64 0)]]⟩)) ?_ ?_ ?_ ?_
   ·rintro v13 v0 hr
    dsimp only[fJ] at hr
    try dsimp only
    refine wa_ T (g:=?_)
    rcases ifs hr with⟨h10,hr⟩|⟨h10,hr⟩
    ·have T:=an h10 T
     refine wa_ T (g:=?_)
     obtain⟨v21,h11,hr⟩:=bs hr
     apply TO.cal (wn T) rfl aAF (rT h11) rfl rfl rfl
     repeat exact sd T
     refine wa_ T (g:=?_)
     rcases ifs hr with⟨h12,hr⟩|⟨h12,hr⟩
     ·have T:=an h12 T
      refine wa_ T (g:=?_)
      obtain⟨⟨v22,v23,v24⟩,h13,hr⟩:=bs hr
      try dsimp only at hr
      apply TO.cal (wn T) rfl aB9 (Ag h13) rfl rfl rfl
      repeat exact sd T
      refine wa_ T (g:=?_)
      cases hr
      refine⟨rfl,?_⟩
      exact wk_ T [some 0] rfl (rv .nil rfl)
     ·have T:=an h12 T
      refine wa_ T (g:=?_)
      cases hr
      refine⟨rfl,?_⟩
      exact wk_ T [some 0] rfl (rv .nil rfl)
    ·have T:=an h10 T
     refine wa_ T (g:=?_)
     cases hr
     refine⟨rfl,?_⟩
     exact wk_ T [some 0] rfl (rv .nil rfl)
   ·intro e h;rcases e with _|e<;>cases h
   ·try dsimp only
    rcases v25 with⟨v26,v27,v28⟩|_
    ·try dsimp only at hr
     try dsimp only
     refine wa_ T (g:=?_)
     cases hr
     refine⟨.inr rfl,_,(ry T),?_⟩
     exact wk_ T [] rfl .nil
    ·try dsimp only at hr
     try dsimp only
     refine wa_ T (g:=?_)
     cases hr
     refine⟨.inr rfl,_,(ry T),?_⟩
     exact wk_ T [] rfl .nil
   ·try dsimp only
    exact wk_ T [some 0] rfl (rv .nil rfl)
 rfl
end Go.Rex
namespace Go.Rex
open Go.Proofs
open Go Go.Rex Go.RowKit
set_option maxRecDepth 100000
set_option maxHeartbeats 200000
def y71:=an @oH <| @Py
theorem yM{v1:Int}{v2:Bool}(hr:mT v1=some (v2)):Spec (lim Tryz.prog) 59 [.v (.int .i64 v1)] ⟨[.v (.bool v2)],[]⟩:=by
 unfold mT at hr
 have T:=y71
 apply Spec.fn Tryz.func59 rfl
 focus (simp[Tryz.f59]<;>exact rfl)
 focus
  refine wa_ T (g:=?_)
  rcases ifs hr with⟨h1,hr⟩|⟨h1,hr⟩
  ·have T:=an h1 T
   refine wa_ T (g:=?_)
   cases hr
   refine⟨.inr rfl,_,(ry T),?_⟩
   exact wk_ T [] rfl .nil
  ·have T:=an h1 T
   refine wa_ T (g:=?_)
   obtain⟨v4,h8,hr⟩:=bs hr
   refine TX.loopE (step:=mD v1) (x:=2) h8 (fun v3=>⟨.v (.int .i64 v1)::.U::.U::.v (.int .i64 v3)::.U::.U::.U::.U::.U::.U::.U::.U::.U::.U::.U::.U::.U::[],[]⟩) (fun e=>match e with|(.inl _)=>(.ret,⟨.U::.U::.v (.bool false)::.U::.U::.U::.U::.U::.U::.U::.U::.U::.U::.U::.U::.U::.U::[],[]⟩)|(.inr _)=>(.exit 0,⟨.U::.U::.U::.U::.U::.U::.U::.U::.U::.U::.U::.U::.U::.U::.U::.U::.U::[],[]⟩)) ?_ ?_ ?_ ?_
   ·rintro v3 v0 hr
    dsimp only[mD] at hr
    try dsimp only
    refine wa_ T (g:=?_)
    rcases ifs hr with⟨h5,hr⟩|⟨h5,hr⟩
    ·have T:=an h5 T
     refine wa_ T (g:=?_)
     by_cases h6:v3=0
     ·rw[a9 h6] at hr
      cases hr
     ·rw[b6 h6] at hr
      have T:=an h6 T
      refine wa_ T (g:=?_)
      rcases ifs hr with⟨h7,hr⟩|⟨h7,hr⟩
      ·have T:=an h7 T
       refine wa_ T (g:=?_)
       cases hr
       refine⟨rfl,?_⟩
       exact wk_ T [] rfl .nil
      ·have T:=an h7 T
       refine wa_ T (g:=?_)
       cases hr
       refine⟨rfl,?_⟩
       exact wk_ T [] rfl .nil
    ·have T:=an h5 T
     refine wa_ T (g:=?_)
     cases hr
     refine⟨rfl,?_⟩
     exact wk_ T [] rfl .nil
   ·intro e h;rcases e with _|e<;>cases h
   ·try dsimp only
    rcases v4 with _|_
    ·try dsimp only at hr
     try dsimp only
     refine wa_ T (g:=?_)
     cases hr
     refine⟨.inr rfl,_,(ry T),?_⟩
     exact wk_ T [] rfl .nil
    ·try dsimp only at hr
     try dsimp only
     refine wa_ T (g:=?_)
     cases hr
     refine⟨.inr rfl,_,(ry T),?_⟩
     exact wk_ T [] rfl .nil
   ·try dsimp only
    exact wk_ T [] rfl .nil
 rfl
theorem sV{v1:Int}{v2:Int}{v3:Int}{v4:Int}(hr:nV v1 v2 v3=some (v4)):Spec (lim Tryz.prog) 95 [.v (.int .i64 v1),.v (.int .i64 v2),.v (.int .i64 v3)] ⟨[.v (.int .i64 v4)],[]⟩:=by
 unfold nV at hr
 have T:=trivial
 apply Spec.fn Tryz.func95 rfl
 focus (simp[Tryz.f95]<;>exact rfl)
 focus
  refine wa_ T (g:=?_)
  by_cases h1:v3=0
  ·rw[a9 h1] at hr
   cases hr
  ·rw[b6 h1] at hr
   have T:=an h1 T
   refine wa_ T (g:=?_)
   obtain⟨v9,h6,hr⟩:=bs hr
   refine TX.loopE (step:=iA v3) (x:=(v1,v2,((1:Int).tmod v3))) h6 (fun (v5,v6,v7)=>⟨.v (.int .i64 v5)::.v (.int .i64 v6)::.v (.int .i64 v3)::.U::.U::.U::.U::.v (.int .i64 v7)::.U::.U::.U::.U::.U::.U::.U::.U::.U::.U::.U::.U::.U::.U::.U::.U::.U::.U::.U::.U::[],[]⟩) (fun v8=>(.exit 0,⟨.U::.U::.U::.U::.U::.U::.U::.v (.int .i64 v8)::.U::.U::.U::.U::.U::.U::.U::.U::.U::.U::.U::.U::.U::.U::.U::.U::.U::.U::.U::.U::[],[]⟩)) ?_ ?_ ?_ ?_
   ·rintro⟨v5,v6,v7⟩ v0 hr
    dsimp only[iA] at hr
    try dsimp only
    refine wa_ T (g:=?_)
    rcases ifs hr with⟨h4,hr⟩|⟨h4,hr⟩
    ·have T:=an h4 T
     refine wa_ T (g:=?_)
     rcases ifs hr with⟨h5,hr⟩|⟨h5,hr⟩
     ·have T:=an h5 T
      refine wa_ T (g:=?_)
      cases hr
      refine⟨rfl,?_⟩
      exact wk_ T [] rfl .nil
     ·have T:=an h5 T
      refine wa_ T (g:=?_)
      cases hr
      refine⟨rfl,?_⟩
      exact wk_ T [] rfl .nil
    ·have T:=an h4 T
     refine wa_ T (g:=?_)
     cases hr
     refine⟨rfl,?_⟩
     exact wk_ T [] rfl .nil
   ·intro e h;cases h
   ·try dsimp only
    refine wa_ T (g:=?_)
    cases hr
    refine⟨.inr rfl,_,(ry T),?_⟩
    exact wr [] rfl .nil
   ·try dsimp only
    exact wr [] rfl .nil
 rfl
end Go.Rex
namespace Go.Rex
open Go.Proofs
open Go Go.Rex Go.RowKit
set_option maxRecDepth 100000
set_option maxHeartbeats 1000000
def y72:=an @by3 <| an @cs3 <| an @ni24 <| an @so24 <| an @zc3 <| @oH
theorem Ad{v1:Int}{v2:(List Int)}(hr:oS v1=some (v2)):Spec (lim Tryz.prog) 96 [.v (.int .i64 v1)] ⟨[.lsl 0 0 v2.length],[.rows 1 (v2.map e_i)]⟩:=by
 unfold oS at hr
 have T:=an y72 <| @e_i.eq_1
 apply Spec.fn Tryz.func96 rfl
 focus (simp[Tryz.f96]<;>exact rfl)
 focus
  refine wa_ T (g:=?_)
  apply TX.vt (α:=Int) e_i 3 1 rfl
  repeat exact sd T
  with_reducible apply TX.here
  refine wa_ T (g:=?_)
  obtain⟨v15,h17,hr⟩:=bs hr
  refine TX.loopE (step:=eX) (x:=(v1,([]:List Int),2)) h17 (fun (v3,v4,v5)=>⟨.v (.int .i64 v3)::.U::.U::.lsl 0 0 v4.length::.v (.int .i64 v5)::.U::.U::.U::.U::.U::.U::.U::.U::.U::.U::.U::.U::.U::.U::.U::.U::.U::.U::.U::.U::[],[.rows 1 (v4.map e_i)]⟩) (fun v10=>(.exit 0,⟨.U::.U::.U::.lsl 0 0 v10.length::.U::.U::.U::.U::.U::.U::.U::.U::.U::.U::.U::.U::.U::.U::.U::.U::.U::.U::.U::.U::.U::[],[.rows 1 (v10.map e_i)]⟩)) ?_ ?_ ?_ ?_
  ·rintro⟨v3,v4,v5⟩ v0 hr
   dsimp only[eX] at hr
   try dsimp only
   refine wa_ T (g:=?_)
   rcases ifs hr with⟨h9,hr⟩|⟨h9,hr⟩
   ·have T:=an h9 T
    refine wa_ T (g:=?_)
    by_cases h10:v5=0
    ·rw[a9 h10] at hr
     cases hr
    ·rw[b6 h10] at hr
     have T:=an h10 T
     refine wa_ T (g:=?_)
     rcases ifs hr with⟨h11,hr⟩|⟨h11,hr⟩
     ·have T:=an h11 T
      refine wa_ T (g:=?_)
      apply TO.bm e_i ([v5]:List Int) (wn T) rfl (by simp only[zz,y72,e_i,Nat.reduceAdd,Nat.reduceMul,Nat.reduceLeDiff,Nat.reduceEqDiff,tslice,tparts,h9,h10,h11];exact rfl) rfl
      repeat exact sd T
      refine wa_ T (g:=?_)
      obtain⟨v11,h12,hr⟩:=bs hr
      apply TO.ap (f:=e_i) (xs:=v4) (ys:=([v5]:List Int)) (wn T) rfl rfl (by first|rfl|simp only[List.length_set]) rfl rfl so24 ni24 zc3 rfl (by rw[by3];exact h12) (fun _=>⟨rfl,rfl,rfl⟩)
      repeat exact sd T
      refine wa_ T (g:=?_)
      obtain⟨v14,h15,hr⟩:=bs hr
      refine TX.loopE (step:=jA v5) (x:=v3) h15 (fun v12=>⟨.v (.int .i64 v12)::.U::.U::.lsl 0 0 v11.length::.v (.int .i64 v5)::.U::.U::.U::.U::.U::.U::.U::.U::.U::.U::.U::.U::.U::.U::.U::.U::.U::.U::.U::.U::[],[.rows 1 (v11.map e_i)]⟩) (fun v13=>(.exit 2,⟨.v (.int .i64 v13)::.U::.U::.lsl 0 0 v11.length::.v (.int .i64 v5)::.U::.U::.U::.U::.U::.U::.U::.U::.U::.U::.U::.U::.U::.U::.U::.U::.U::.U::.U::.U::[],[.rows 1 (v11.map e_i)]⟩)) ?_ ?_ ?_ ?_
      ·rintro v12 v0 hr
       dsimp only[jA] at hr
       try dsimp only
       refine wa_ T (g:=?_)
       rcases ifs hr with⟨h14,hr⟩|⟨h14,hr⟩
       ·have T:=an h14 T
        refine wa_ T (g:=?_)
        cases hr
        refine⟨rfl,?_⟩
        exact wk_ T [some 0] rfl (.rows .nil rfl rfl)
       ·have T:=an h14 T
        refine wa_ T (g:=?_)
        cases hr
        refine⟨rfl,?_⟩
        exact wk_ T [some 0] rfl (.rows .nil rfl rfl)
      ·intro e h;cases h
      ·try dsimp only
       refine wa_ T (g:=?_)
       cases hr
       refine⟨rfl,?_⟩
       exact wk_ T [some 0] rfl (.rows .nil rfl rfl)
      ·try dsimp only
       exact wk_ T [some 0] rfl (.rows .nil rfl rfl)
     ·have T:=an h11 T
      refine wa_ T (g:=?_)
      obtain⟨_,h16,hr⟩:=bs hr
      refine TX.loopE (step:=nA) (x:=()) h16 (fun _=>⟨.v (.int .i64 v3)::.U::.U::.lsl 0 0 v4.length::.v (.int .i64 v5)::.U::.U::.U::.U::.U::.U::.U::.U::.U::.U::.U::.U::.U::.U::.U::.U::.U::.U::.U::.U::[],[.rows 1 (v4.map e_i)]⟩) (fun _=>(.exit 2,⟨.v (.int .i64 v3)::.U::.U::.lsl 0 0 v4.length::.v (.int .i64 v5)::.U::.U::.U::.U::.U::.U::.U::.U::.U::.U::.U::.U::.U::.U::.U::.U::.U::.U::.U::.U::[],[.rows 1 (v4.map e_i)]⟩)) ?_ ?_ ?_ ?_
      ·rintro _ v0 hr
       dsimp only[nA] at hr
       try dsimp only
       refine wa_ T (g:=?_)
       cases hr
       refine⟨rfl,?_⟩
       exact wk_ T [some 0] rfl (.rows .nil rfl rfl)
      ·intro e h;cases h
      ·try dsimp only
       refine wa_ T (g:=?_)
       cases hr
       refine⟨rfl,?_⟩
       exact wk_ T [some 0] rfl (.rows .nil rfl rfl)
      ·try dsimp only
       exact wk_ T [some 0] rfl (.rows .nil rfl rfl)
   ·have T:=an h9 T
    refine wa_ T (g:=?_)
    cases hr
    refine⟨rfl,?_⟩
    exact wk_ T [some 0] rfl (.rows .nil rfl rfl)
  ·intro e h;cases h
  ·try dsimp only
   refine wa_ T (g:=?_)
   cases hr
   refine⟨.inr rfl,_,(ry T),?_⟩
   exact wr [some 0] rfl (.rows .nil rfl rfl)
  ·try dsimp only
   exact wr [some 0] rfl (.rows .nil rfl rfl)
 rfl
def y73:=an @ag3 <| an @cs3 <| an @ok3 <| an @so24 <| @aV
theorem Ar{v1:Int}{v2:Int}{v3:Int}{v4:Bool}(hr:oG v1 v2 v3=some (v4)):Spec (lim Tryz.prog) 60 [.v (.int .i64 v1),.v (.int .i64 v2),.v (.int .i64 v3)] ⟨[.v (.bool v4)],[]⟩:=by
 unfold oG at hr
 have T:=an y73 <| @e_i.eq_1
 apply Spec.fn Tryz.func60 rfl
 focus (simp[Tryz.f60]<;>exact rfl)
 focus
  refine wa_ T (g:=?_)
  obtain⟨v5,h1,hr⟩:=bs hr
  apply TD.cal (wn T) rfl Xq (sV h1) rfl rfl rfl
  repeat exact sd T
  refine wa_ T (g:=?_)
  by_cases h2:v3=0
  ·rw[a9 h2] at hr
   cases hr
  ·rw[b6 h2] at hr
   have T:=an h2 T
   refine wa_ T (g:=?_)
   rcases ifs hr with⟨h3,hr⟩|⟨h3,hr⟩
   ·have T:=an h3 T
    refine wa_ T (g:=?_)
    cases hr
    refine⟨.inr rfl,_,(ry T),?_⟩
    exact wk_ T [] rfl .nil
   ·have T:=an h3 T
    refine wa_ T (g:=?_)
    obtain⟨v6,h4,hr⟩:=bs hr
    apply TO.cal (wn T) rfl aCZ (Ad h4) rfl rfl rfl
    repeat exact sd T
    refine wa_ T (g:=?_)
    obtain⟨v12,h15,hr⟩:=bs hr
    refine TX.loopE (step:=dM v1 v2 v3 v6) (x:=0) h15 (fun v7=>⟨.v (.int .i64 v1)::.v (.int .i64 v2)::.v (.int .i64 v3)::.U::.U::.U::.U::.lsl 0 0 v6.length::.v (.int .i64 v7)::.U::.U::.U::.U::.U::.U::.U::.U::.U::.U::.U::.U::.U::.U::.U::.U::.U::.U::.U::.U::.U::.U::.U::.U::.U::.U::.U::[],[.rows 1 (v6.map e_i)]⟩) (fun e=>match e with|(.inl _)=>(.ret,⟨.U::.U::.U::.U::.U::.U::.v (.bool false)::.U::.U::.U::.U::.U::.U::.U::.U::.U::.U::.U::.U::.U::.U::.U::.U::.U::.U::.U::.U::.U::.U::.U::.U::.U::.U::.U::.U::.U::[],[]⟩)|(.inr _)=>(.exit 0,⟨.U::.U::.U::.U::.U::.U::.U::.U::.U::.U::.U::.U::.U::.U::.U::.U::.U::.U::.U::.U::.U::.U::.U::.U::.U::.U::.U::.U::.U::.U::.U::.U::.U::.U::.U::.U::[],[]⟩)) ?_ ?_ ?_ ?_
    ·rintro v7 v0 hr
     dsimp only[dM] at hr
     try dsimp only
     refine wc_ T (g:=?_)
     rcases ifs hr with⟨h10,hr⟩|⟨h10,hr⟩
     ·have T:=an h10 T
      refine wa_ T (g:=?_)
      obtain⟨v10,h11,hr⟩:=bs hr
      have T:=an (gx e_i h11) T
      refine wA T (g:=?_)
      by_cases h12:v10=0
      ·rw[a9 h12] at hr
       cases hr
      ·rw[b6 h12] at hr
       have T:=an h12 T
       refine wa_ T (g:=?_)
       obtain⟨v11,h13,hr⟩:=bs hr
       apply TD.cal (wn T) rfl Xq (sV h13) rfl rfl rfl
       repeat exact sd T
       refine wa_ T (g:=?_)
       rcases ifs hr with⟨h14,hr⟩|⟨h14,hr⟩
       ·have T:=an h14 T
        refine wa_ T (g:=?_)
        cases hr
        refine⟨rfl,?_⟩
        exact wk_ T [] rfl .nil
       ·have T:=an h14 T
        refine wa_ T (g:=?_)
        cases hr
        refine⟨rfl,?_⟩
        exact wk_ T [some 0] rfl (.rows .nil rfl rfl)
     ·have T:=an h10 T
      refine wa_ T (g:=?_)
      cases hr
      refine⟨rfl,?_⟩
      exact wk_ T [] rfl .nil
    ·intro e h;rcases e with _|e<;>cases h
    ·try dsimp only
     rcases v12 with _|_
     ·try dsimp only at hr
      try dsimp only
      refine wa_ T (g:=?_)
      cases hr
      refine⟨.inr rfl,_,(ry T),?_⟩
      exact wk_ T [] rfl .nil
     ·try dsimp only at hr
      try dsimp only
      refine wa_ T (g:=?_)
      cases hr
      refine⟨.inr rfl,_,(ry T),?_⟩
      exact wk_ T [] rfl .nil
    ·try dsimp only
     exact wk_ T [some 0] rfl (.rows .nil rfl rfl)
 rfl
def y74:=an @ag3 <| an @vR <| an @Bx <| @wS
theorem uZ{v1:Int}{v2:Int}{v3:Int}{v4:Int}(hr:jT v1 v2 v3=some (v4)):Spec (lim Tryz.prog) 19 [.agg [.v (.int .i64 v1),.v (.int .i64 v2),.v (.int .i64 v3)]] ⟨[.v (.int .i64 v4)],[]⟩:=by
 unfold jT at hr
 have T:=y74
 apply Spec.fn Tryz.func19 rfl
 focus (simp[Tryz.f19]<;>exact rfl)
 focus
  refine wB T (g:=?_)
  obtain⟨v5,h1,hr⟩:=bs hr
  apply TO.cal (wn T) rfl yV (fH h1) rfl rfl rfl
  repeat exact sd T
  refine wa_ T (g:=?_)
  apply TO.pop1 (wn T) (bS rfl)
  repeat exact sd T
  refine wa_ T (g:=?_)
  rcases ifs hr with⟨h2,hr⟩|⟨h2,hr⟩
  ·have T:=an h2 T
   refine wA T (g:=?_)
   obtain⟨v6,h3,hr⟩:=bs hr
   apply TO.cal (wn T) rfl yV (fH h3) rfl rfl rfl
   repeat exact sd T
   refine wa_ T (g:=?_)
   apply TO.pop1 (wn T) (bS rfl)
   repeat exact sd T
   refine wa_ T (g:=?_)
   rcases ifs hr with⟨h4,hr⟩|⟨h4,hr⟩
   ·have T:=an h4 T
    refine wA T (g:=?_)
    obtain⟨v7,h5,hr⟩:=bs hr
    apply TO.cal (wn T) rfl yV (fH h5) rfl rfl rfl
    repeat exact sd T
    refine wa_ T (g:=?_)
    apply TO.pop1 (wn T) (bS rfl)
    repeat exact sd T
    refine wa_ T (g:=?_)
    rcases ifs hr with⟨h6,hr⟩|⟨h6,hr⟩
    ·have T:=an h6 T
     refine wA T (g:=?_)
     obtain⟨v8,h7,hr⟩:=bs hr
     apply TO.cal (wn T) rfl aC1 (yM h7) rfl rfl rfl
     repeat exact sd T
     refine wa_ T (g:=?_)
     apply TO.pop1 (wn T) (bS rfl)
     repeat exact sd T
     refine wa_ T (g:=?_)
     rcases ifs hr with⟨h8,hr⟩|⟨h8,hr⟩
     ·have T:=an h8 T
      refine wA T (g:=?_)
      by_cases h9:v3=0
      ·rw[a9 h9] at hr
       cases hr
      ·rw[b6 h9] at hr
       have T:=an h9 T
       refine wa_ T (g:=?_)
       rcases ifs hr with⟨h10,hr⟩|⟨h10,hr⟩
       ·have T:=an h10 T
        refine wa_ T (g:=?_)
        cases hr
        refine⟨.inr rfl,_,(ry T),?_⟩
        exact wk_ T [] rfl .nil
       ·have T:=an h10 T
        refine wA T (g:=?_)
        obtain⟨v9,h11,hr⟩:=bs hr
        apply TO.cal (wn T) rfl aCD (Ar h11) rfl rfl rfl
        repeat exact sd T
        refine wa_ T (g:=?_)
        apply TO.pop1 (wn T) (bS rfl)
        repeat exact sd T
        refine wa_ T (g:=?_)
        rcases ifs hr with⟨h12,hr⟩|⟨h12,hr⟩
        ·have T:=an h12 T
         refine wa_ T (g:=?_)
         cases hr
         refine⟨.inr rfl,_,(ry T),?_⟩
         exact wk_ T [] rfl .nil
        ·have T:=an h12 T
         refine wa_ T (g:=?_)
         cases hr
         refine⟨.inr rfl,_,(ry T),?_⟩
         exact wk_ T [] rfl .nil
     ·have T:=an h8 T
      refine wa_ T (g:=?_)
      cases hr
      refine⟨.inr rfl,_,(ry T),?_⟩
      exact wk_ T [] rfl .nil
    ·have T:=an h6 T
     refine wa_ T (g:=?_)
     cases hr
     refine⟨.inr rfl,_,(ry T),?_⟩
     exact wk_ T [] rfl .nil
   ·have T:=an h4 T
    refine wa_ T (g:=?_)
    cases hr
    refine⟨.inr rfl,_,(ry T),?_⟩
    exact wk_ T [] rfl .nil
  ·have T:=an h2 T
   refine wa_ T (g:=?_)
   cases hr
   refine⟨.inr rfl,_,(ry T),?_⟩
   exact wk_ T [] rfl .nil
 rfl
end Go.Rex
namespace Go.Rex
open Go.Proofs
open Go Go.Rex Go.RowKit
set_option maxRecDepth 100000
set_option maxHeartbeats 200000
def y75:=an @ag26 <| an @ag28 <| an @cs26 <| an @cs28 <| an @Sa <| an @ok26 <| an @ok28 <| @zc28
theorem sY{v1:Int}{v2:(List Int)}{v3:Int}{v4:Int}{v5:(List Int)}{v6:Int}(hr:sH v1 v2 v3=some (v4,v5,v6)):Spec (lim Tryz.prog) 21 [.agg [.v (.int .i64 v1),.list 1 (v2.map e_i),.v (.int .i64 v3)]] ⟨[.agg [.v (.int .i64 v4),.lsl 0 0 v5.length,.v (.int .i64 v6)]],[.rows 1 (v5.map e_i)]⟩:=by
 unfold sH at hr
 have T:=an y75 <| @e_i.eq_1
 apply Spec.fn Tryz.func21 rfl
 focus (simp[Tryz.f21]<;>exact rfl)
 focus
  repeat (first|(with_reducible first|refine mv ?_|refine m12 rfl ?_|refine TO.nil ?_)|((with_reducible first|apply TO.bx (dst:=some 1)|apply TO.al|apply TO.fa|apply TO.ld);(repeat (focus (show _=_;first|exact k1 rfl|exact k2 rfl|(simp only[zz,y75,e_i,Nat.reduceAdd,Nat.reduceMul,Nat.reduceLeDiff,Nat.reduceEqDiff,aJ,tload,dV,dN,List.getElem?_map]<;>exact rfl)|exact rfl)));(with_reducible apply TO.here))|((with_reducible apply TX.region);(focus (simp only[zl]<;>exact rfl));(focus rfl);(try dsimp only))|fail)
  obtain⟨⟨v7,v8⟩,h1,hr⟩:=bs hr
  try dsimp only at hr
  apply TO.cal (wn T) rfl Fn (kQ h1) rfl rfl rfl
  repeat exact sd T
  refine wA T (g:=?_)
  cases hr
  refine⟨.inr rfl,_,(ry T),?_⟩
  exact wr [some 2] rfl (.rows .nil rfl rfl)
 rfl
def y76:=an @ag3 <| @vR
theorem qF{v1:Int}{v2:Int}{v3:Int}{v4:Int}(hr:fL v1 v2 v3=some (v4)):Spec (lim Tryz.prog) 123 [.fptr true [.v (.int .i64 v1),.v (.int .i64 v2),.v (.int .i64 v3)] 0] ⟨[.v (.int .i64 v4)],[]⟩:=by
 unfold fL at hr
 have T:=y76
 apply Spec.fn Tryz.func123 rfl
 focus (simp[Tryz.f123]<;>exact rfl)
 focus
  refine wA T (g:=?_)
  obtain⟨v5,h1,hr⟩:=bs hr
  apply TO.cal (wn T) rfl aAF (rT h1) rfl rfl rfl
  repeat exact sd T
  refine wa_ T (g:=?_)
  apply TO.pop1 (wn T) (bS rfl)
  repeat exact sd T
  refine wa_ T (g:=?_)
  obtain⟨⟨v6,v7⟩,h2,hr⟩:=bs hr
  try dsimp only at hr
  apply TO.cal (wn T) rfl iF (aE h2) rfl rfl rfl
  repeat exact sd T
  refine wa_ T (g:=?_)
  obtain⟨v8,h3,hr⟩:=bs hr
  apply TO.cal (wn T) rfl jU (aB h3) rfl rfl rfl
  repeat exact sd T
  refine wa_ T (g:=?_)
  cases hr
  refine⟨.inr rfl,_,(ry T),?_⟩
  exact wr [] rfl .nil
 rfl
def y77:=an @ag3 <| an @vR <| @wS
theorem qD{v1:Int}{v2:Int}{v3:Int}{v4:Int}(hr:fN v1 v2 v3=some (v4)):Spec (lim Tryz.prog) 124 [.fptr true [.v (.int .i64 v1),.v (.int .i64 v2),.v (.int .i64 v3)] 0] ⟨[.v (.int .i64 v4)],[]⟩:=by
 unfold fN at hr
 have T:=y77
 apply Spec.fn Tryz.func124 rfl
 focus (simp[Tryz.f124]<;>exact rfl)
 focus
  refine wA T (g:=?_)
  by_cases h1:v3=0
  ·rw[a9 h1] at hr
   cases hr
  ·rw[b6 h1] at hr
   have T:=an h1 T
   refine wa_ T (g:=?_)
   obtain⟨⟨v5,v6⟩,h2,hr⟩:=bs hr
   try dsimp only at hr
   apply TO.cal (wn T) rfl iF (aE h2) rfl rfl rfl
   repeat exact sd T
   refine wa_ T (g:=?_)
   obtain⟨v7,h3,hr⟩:=bs hr
   apply TO.cal (wn T) rfl jU (aB h3) rfl rfl rfl
   repeat exact sd T
   refine wa_ T (g:=?_)
   cases hr
   refine⟨.inr rfl,_,(ry T),?_⟩
   exact wr [] rfl .nil
 rfl
def y78:=an @ag47 <| an @cs47 <| an @ok47 <| an @st108 <| @zc108
theorem pU{v1:Int}{v2:Int}{v3:Int}{v4:Int}(hr:fR v1 v2 v3=some (v4)):Spec (lim Tryz.prog) 125 [.fptr true [.v (.int .i64 v1),.v (.int .i64 v2),.v (.int .i64 v3)] 0] ⟨[.v (.int .i64 v4)],[]⟩:=by
 unfold fR at hr
 have T:=y78
 apply Spec.fn Tryz.func125 rfl
 focus (simp[Tryz.f125]<;>exact rfl)
 focus
  refine wA T (g:=?_)
  obtain⟨v5,h1,hr⟩:=bs hr
  apply TO.cal (wn T) rfl aAT (mH h1) rfl rfl rfl
  repeat exact sd T
  refine wa_ T (g:=?_)
  apply TO.pop1 (wn T) (bS rfl)
  repeat exact sd T
  refine wa_ T (g:=?_)
  obtain⟨⟨v6,v7⟩,h2,hr⟩:=bs hr
  try dsimp only at hr
  apply TO.cal (wn T) rfl iF (aE h2) rfl rfl rfl
  repeat exact sd T
  refine wa_ T (g:=?_)
  obtain⟨v8,h3,hr⟩:=bs hr
  apply TO.cal (wn T) rfl jU (aB h3) rfl rfl rfl
  repeat exact sd T
  refine wa_ T (g:=?_)
  cases hr
  refine⟨.inr rfl,_,(ry T),?_⟩
  exact wr [] rfl .nil
 rfl
end Go.Rex
namespace Go.Rex
open Go.Proofs
open Go Go.Rex Go.RowKit
set_option maxRecDepth 100000
set_option maxHeartbeats 1000000
def y79:=an @ag87 <| an @cs87 <| an @ok87 <| an @so131 <| an @aV <| an @kM <| an @oH <| an @zM <| an @Fc <| @Pi
theorem rW{v1:Bool}{v2:Int}{v3:Bool}{v4:Int}{v5:Bool}{v6:Int}{v7:Int}{v8:Int}{v9:Int}{v10:Int}{v11:Int}{v12:Int}{v13:Int}{v14:Int}{v15:Int}{v16:Int}(hr:iN v1 v2 v3 v4 v5 v6 v7 v8 v9 v10 v11 v12 v13 v14 v15=some (v16)):Spec (lim Tryz.prog) 37 [.list 1 [[.func 91 [] [.fptr true [.v (.bool v1)] 0,.fptr true [.v (.int .i64 v2)] 0]],[.func 91 [] [.fptr true [.v (.bool v3)] 0,.fptr true [.v (.int .i64 v4)] 0]],[.func 91 [] [.fptr true [.v (.bool v5)] 0,.fptr true [.v (.int .i64 v6)] 0]],[.func 123 [] [.fptr true [.v (.int .i64 v7),.v (.int .i64 v8),.v (.int .i64 v9)] 0]],[.func 124 [] [.fptr true [.v (.int .i64 v10),.v (.int .i64 v11),.v (.int .i64 v12)] 0]],[.func 125 [] [.fptr true [.v (.int .i64 v13),.v (.int .i64 v14),.v (.int .i64 v15)] 0]]]] ⟨[.v (.int .i64 v16)],[]⟩:=by
 unfold iN at hr
 have T:=y79
 apply Spec.fn Tryz.func37 rfl
 focus (simp[Tryz.f37]<;>exact rfl)
 focus
  refine wc_ T (g:=?_)
  refine TX.unroll ?_
  refine wI T (g:=?_)
  obtain⟨v17,h1,hr⟩:=bs hr
  apply TO.cal (wn T) rfl jU (aB h1) rfl rfl rfl
  repeat exact sd T
  refine wa_ T (g:=?_)
  rcases ifs hr with⟨h2,hr⟩|⟨h2,hr⟩
  ·have T:=an h2 T
   refine wa_ T (g:=?_)
   cases hr
   refine⟨.inr rfl,_,(ry T),?_⟩
   exact wk_ T [] rfl .nil
  ·have T:=an h2 T
   refine wa_ T (g:=?_)
   refine TX.unroll ?_
   refine wI T (g:=?_)
   obtain⟨v18,h3,hr⟩:=bs hr
   apply TO.cal (wn T) rfl jU (aB h3) rfl rfl rfl
   repeat exact sd T
   refine wa_ T (g:=?_)
   rcases ifs hr with⟨h4,hr⟩|⟨h4,hr⟩
   ·have T:=an h4 T
    refine wa_ T (g:=?_)
    cases hr
    refine⟨.inr rfl,_,(ry T),?_⟩
    exact wk_ T [] rfl .nil
   ·have T:=an h4 T
    refine wa_ T (g:=?_)
    refine TX.unroll ?_
    refine wI T (g:=?_)
    obtain⟨v19,h5,hr⟩:=bs hr
    apply TO.cal (wn T) rfl jU (aB h5) rfl rfl rfl
    repeat exact sd T
    refine wa_ T (g:=?_)
    rcases ifs hr with⟨h6,hr⟩|⟨h6,hr⟩
    ·have T:=an h6 T
     refine wa_ T (g:=?_)
     cases hr
     refine⟨.inr rfl,_,(ry T),?_⟩
     exact wk_ T [] rfl .nil
    ·have T:=an h6 T
     refine wa_ T (g:=?_)
     refine TX.unroll ?_
     refine wI T (g:=?_)
     obtain⟨v20,h7,hr⟩:=bs hr
     apply TO.cal (wn T) rfl aA6 (qF h7) rfl rfl rfl
     repeat exact sd T
     refine wa_ T (g:=?_)
     rcases ifs hr with⟨h8,hr⟩|⟨h8,hr⟩
     ·have T:=an h8 T
      refine wa_ T (g:=?_)
      cases hr
      refine⟨.inr rfl,_,(ry T),?_⟩
      exact wk_ T [] rfl .nil
     ·have T:=an h8 T
      refine wa_ T (g:=?_)
      refine TX.unroll ?_
      refine wI T (g:=?_)
      obtain⟨v21,h9,hr⟩:=bs hr
      apply TO.cal (wn T) rfl aBo (qD h9) rfl rfl rfl
      repeat exact sd T
      refine wa_ T (g:=?_)
      rcases ifs hr with⟨h10,hr⟩|⟨h10,hr⟩
      ·have T:=an h10 T
       refine wa_ T (g:=?_)
       cases hr
       refine⟨.inr rfl,_,(ry T),?_⟩
       exact wk_ T [] rfl .nil
      ·have T:=an h10 T
       refine wa_ T (g:=?_)
       refine TX.unroll ?_
       refine wI T (g:=?_)
       obtain⟨v22,h11,hr⟩:=bs hr
       apply TO.cal (wn T) rfl aBg (pU h11) rfl rfl rfl
       repeat exact sd T
       refine wa_ T (g:=?_)
       rcases ifs hr with⟨h12,hr⟩|⟨h12,hr⟩
       ·have T:=an h12 T
        refine wa_ T (g:=?_)
        cases hr
        refine⟨.inr rfl,_,(ry T),?_⟩
        exact wk_ T [] rfl .nil
       ·have T:=an h12 T
        refine wa_ T (g:=?_)
        refine TX.unroll ?_
        refine wa_ T (g:=?_)
        cases hr
        refine⟨.inr rfl,_,(ry T),?_⟩
        exact wk_ T [] rfl .nil
 rfl
end Go.Rex
namespace Go.Rex
open Go.Proofs
open Go Go.Rex Go.RowKit
set_option maxRecDepth 100000
set_option maxHeartbeats 200000
def y80:=an @ag3 <| an @cs87 <| an @vR <| an @Bx <| an @wS <| an @so131 <| @zc87
theorem uY{v1:Int}{v2:Int}{v3:Int}{v4:Int}(hr:gX v1 v2 v3=some (v4)):Spec (lim Tryz.prog) 97 [.agg [.v (.int .i64 v1),.v (.int .i64 v2),.v (.int .i64 v3)]] ⟨[.v (.int .i64 v4)],[]⟩:=by
 unfold gX at hr
 have T:=y80
 apply Spec.fn Tryz.func97 rfl
 focus (simp[Tryz.f97]<;>exact rfl)
 focus
  refine wB T (g:=?_)
  obtain⟨⟨v5,v6⟩,h1,hr⟩:=bs hr
  try dsimp only at hr
  apply TD.cal (wn T) rfl uC (cF h1) rfl rfl rfl
  repeat exact sd T
  refine wA T (g:=?_)
  obtain⟨⟨v7,v8⟩,h2,hr⟩:=bs hr
  try dsimp only at hr
  apply TD.cal (wn T) rfl uC (cF h2) rfl rfl rfl
  repeat exact sd T
  refine wA T (g:=?_)
  obtain⟨⟨v9,v10⟩,h3,hr⟩:=bs hr
  try dsimp only at hr
  apply TD.cal (wn T) rfl uC (cF h3) rfl rfl rfl
  repeat exact sd T
  refine we_ T (g:=?_)
  obtain⟨v11,h4,hr⟩:=bs hr
  apply TD.cal (wn T) rfl nL (rW h4) rfl rfl rfl
  repeat exact sd T
  refine wa_ T (g:=?_)
  cases hr
  refine⟨.inr rfl,_,(ry T),?_⟩
  exact wr [] rfl .nil
 rfl
def y81:=an @ag47 <| an @cs47 <| an @pQ <| @ok47
theorem uE{v1:Int}{v2:Int}{v3:Int}{v4:Int}(hr:lH v1 v2 v3=some (v4)):Spec (lim Tryz.prog) 61 [.agg [.v (.int .i64 v1),.v (.int .i64 v2),.v (.int .i64 v3)]] ⟨[.v (.int .i64 v4)],[]⟩:=by
 unfold lH at hr
 have T:=y81
 apply Spec.fn Tryz.func61 rfl
 focus (simp[Tryz.f61]<;>exact rfl)
 focus
  refine wB T (g:=?_)
  obtain⟨v5,h1,hr⟩:=bs hr
  apply TO.cal (wn T) rfl aCy (uY h1) rfl rfl rfl
  repeat exact sd T
  refine wa_ T (g:=?_)
  cases hr
  refine⟨.inr rfl,_,(ry T),?_⟩
  exact wr [] rfl .nil
 rfl
def y82:=an @ag3 <| an @ag32 <| an @ag84 <| an @cs84 <| an @wS <| an @ok84 <| @so32
theorem qH{v1:(List (Nat×Nat))}{v2:Int}{v3:(List Int)}{v4:Int}{v5:Int}{v6:Int}{v7:Int}(hr:dG v1 v2 v3 v4 v5 v6=some (v7)):Spec (lim Tryz.prog) 62 [.fptr true [.list 1 (v1.map e_c)] 0,.fptr true [.v (.int .i64 v2),.list 1 (v3.map e_i)] 0,.fptr true [.v (.int .i64 v4),.v (.int .i64 v5),.v (.int .i64 v6)] 0] ⟨[.v (.int .i64 v7)],[]⟩:=by
 unfold dG at hr
 have T:=an y82 <| an @e_c.eq_1 <| @e_i.eq_1
 apply Spec.fn Tryz.func62 rfl
 focus (simp[Tryz.f62]<;>exact rfl)
 focus
  refine wC T (g:=?_)
  obtain⟨v8,h1,hr⟩:=bs hr
  apply TD.cal (wn T) rfl vH (aL h1) rfl rfl rfl
  repeat exact sd T
  refine wa_ T (g:=?_)
  rcases ifs hr with⟨h2,hr⟩|⟨h2,hr⟩
  ·have T:=an h2 T
   refine wa_ T (g:=?_)
   obtain⟨⟨v9,v10⟩,h3,hr⟩:=bs hr
   try dsimp only at hr
   apply TD.cal (wn T) rfl iF (aE h3) rfl rfl rfl
   repeat exact sd T
   refine wa_ T (g:=?_)
   obtain⟨v11,h4,hr⟩:=bs hr
   apply TD.cal (wn T) rfl jU (aB h4) rfl rfl rfl
   repeat exact sd T
   refine wa_ T (g:=?_)
   cases hr
   refine⟨.inr rfl,_,(ry T),?_⟩
   exact wk_ T [] rfl .nil
  ·have T:=an h2 T
   refine wA T (g:=?_)
   obtain⟨v12,h5,hr⟩:=bs hr
   apply TD.cal (wn T) rfl vH (aL h5) rfl rfl rfl
   repeat exact sd T
   refine wa_ T (g:=?_)
   obtain⟨⟨v13,v14⟩,h6,hr⟩:=bs hr
   try dsimp only at hr
   apply TD.cal (wn T) rfl iF (aE h6) rfl rfl rfl
   repeat exact sd T
   refine wa_ T (g:=?_)
   obtain⟨v15,h7,hr⟩:=bs hr
   apply TD.cal (wn T) rfl jU (aB h7) rfl rfl rfl
   repeat exact sd T
   refine wa_ T (g:=?_)
   cases hr
   refine⟨.inr rfl,_,(ry T),?_⟩
   exact wk_ T [] rfl .nil
 rfl
end Go.Rex
namespace Go.Rex
open Go.Proofs
open Go Go.Rex Go.RowKit
set_option maxRecDepth 100000
set_option maxHeartbeats 1000000
def y83:=an @ag87 <| an @cs87 <| an @ok87 <| an @so131 <| an @aV <| an @kM <| an @oH <| an @zM <| an @Fc <| @Pi
theorem lT{v1:(List (Nat×Nat))}{v2:Int}{v3:(List Int)}{v4:Int}{v5:Int}{v6:(List Int)}{v7:Int}{v8:Int}{v9:Int}{v10:Int}{v11:(List Int)}{v12:(List (Nat×Nat))}{v13:Int}{v14:(List Int)}{v15:Int}{v16:Int}{v17:Int}{v18:Int}(hr:iL v1 v2 v3 v4 v5 v6 v7 v8 v9 v10 v11 v12 v13 v14 v15 v16 v17=some (v18)):Spec (lim Tryz.prog) 37 [.list 1 [[.func 83 [] [.fptr true [.list 1 (v1.map e_c)] 0]],[.func 39 [.agg [.v (.int .i64 v2),.list 1 (v3.map e_i)]] []],[.func 87 [] [.fptr true [.v (.int .i64 v4)] 0,.fptr true [.v (.int .i64 v5),.list 1 (v6.map e_i)] 0]],[.func 61 [.agg [.v (.int .i64 v7),.v (.int .i64 v8),.v (.int .i64 v9)]] []],[.func 50 [.agg [.v (.int .i64 v10),.list 1 (v11.map e_i)]] []],[.func 62 [] [.fptr true [.list 1 (v12.map e_c)] 0,.fptr true [.v (.int .i64 v13),.list 1 (v14.map e_i)] 0,.fptr true [.v (.int .i64 v15),.v (.int .i64 v16),.v (.int .i64 v17)] 0]]]] ⟨[.v (.int .i64 v18)],[]⟩:=by
 unfold iL at hr
 have T:=an y83 <| an @e_c.eq_1 <| @e_i.eq_1
 apply Spec.fn Tryz.func37 rfl
 focus (simp[Tryz.f37]<;>exact rfl)
 focus
  refine wc_ T (g:=?_)
  refine TX.unroll ?_
  refine wI T (g:=?_)
  obtain⟨v19,h1,hr⟩:=bs hr
  apply TO.cal (wn T) rfl Le (fA h1) rfl rfl rfl
  repeat exact sd T
  refine wa_ T (g:=?_)
  rcases ifs hr with⟨h2,hr⟩|⟨h2,hr⟩
  ·have T:=an h2 T
   refine wa_ T (g:=?_)
   cases hr
   refine⟨.inr rfl,_,(ry T),?_⟩
   exact wk_ T [] rfl .nil
  ·have T:=an h2 T
   refine wa_ T (g:=?_)
   refine TX.unroll ?_
   refine wI T (g:=?_)
   obtain⟨v20,h3,hr⟩:=bs hr
   apply TO.cal (wn T) rfl Rj (iD h3) rfl rfl rfl
   repeat exact sd T
   refine wa_ T (g:=?_)
   rcases ifs hr with⟨h4,hr⟩|⟨h4,hr⟩
   ·have T:=an h4 T
    refine wa_ T (g:=?_)
    cases hr
    refine⟨.inr rfl,_,(ry T),?_⟩
    exact wk_ T [] rfl .nil
   ·have T:=an h4 T
    refine wa_ T (g:=?_)
    refine TX.unroll ?_
    refine wI T (g:=?_)
    obtain⟨v21,h5,hr⟩:=bs hr
    apply TO.cal (wn T) rfl Qx (cS h5) rfl rfl rfl
    repeat exact sd T
    refine wa_ T (g:=?_)
    rcases ifs hr with⟨h6,hr⟩|⟨h6,hr⟩
    ·have T:=an h6 T
     refine wa_ T (g:=?_)
     cases hr
     refine⟨.inr rfl,_,(ry T),?_⟩
     exact wk_ T [] rfl .nil
    ·have T:=an h6 T
     refine wa_ T (g:=?_)
     refine TX.unroll ?_
     refine wI T (g:=?_)
     obtain⟨v22,h7,hr⟩:=bs hr
     apply TO.cal (wn T) rfl aCA (uE h7) rfl rfl rfl
     repeat exact sd T
     refine wa_ T (g:=?_)
     rcases ifs hr with⟨h8,hr⟩|⟨h8,hr⟩
     ·have T:=an h8 T
      refine wa_ T (g:=?_)
      cases hr
      refine⟨.inr rfl,_,(ry T),?_⟩
      exact wk_ T [] rfl .nil
     ·have T:=an h8 T
      refine wa_ T (g:=?_)
      refine TX.unroll ?_
      refine wI T (g:=?_)
      obtain⟨v23,h9,hr⟩:=bs hr
      apply TO.cal (wn T) rfl Xu (kP h9) rfl rfl rfl
      repeat exact sd T
      refine wa_ T (g:=?_)
      rcases ifs hr with⟨h10,hr⟩|⟨h10,hr⟩
      ·have T:=an h10 T
       refine wa_ T (g:=?_)
       cases hr
       refine⟨.inr rfl,_,(ry T),?_⟩
       exact wk_ T [] rfl .nil
      ·have T:=an h10 T
       refine wa_ T (g:=?_)
       refine TX.unroll ?_
       refine wI T (g:=?_)
       obtain⟨v24,h11,hr⟩:=bs hr
       apply TO.cal (wn T) rfl aCP (qH h11) rfl rfl rfl
       repeat exact sd T
       refine wa_ T (g:=?_)
       rcases ifs hr with⟨h12,hr⟩|⟨h12,hr⟩
       ·have T:=an h12 T
        refine wa_ T (g:=?_)
        cases hr
        refine⟨.inr rfl,_,(ry T),?_⟩
        exact wk_ T [] rfl .nil
       ·have T:=an h12 T
        refine wa_ T (g:=?_)
        refine TX.unroll ?_
        refine wa_ T (g:=?_)
        cases hr
        refine⟨.inr rfl,_,(ry T),?_⟩
        exact wk_ T [] rfl .nil
 rfl
end Go.Rex
namespace Go.Rex
open Go.Proofs
open Go Go.Rex Go.RowKit
set_option maxRecDepth 100000
set_option maxHeartbeats 200000
def y84:=an @ag108 <| an @ag3 <| an @by3 <| an @cs108 <| an @cs3 <| an @pQ <| an @Bx <| an @wS <| an @ni24 <| an @ok108 <| an @ok3 <| an @so24 <| @zc3
theorem tE{v1:Int}{v2:Int}{v3:Int}{v4:(List Int)}(hr:iB v1 v2 v3=some (v4)):Spec (lim Tryz.prog) 98 [.agg [.v (.int .i64 v1),.v (.int .i64 v2),.v (.int .i64 v3)]] ⟨[.lsl 0 0 v4.length],[.rows 1 (v4.map e_i)]⟩:=by
 unfold iB at hr
 have T:=an y84 <| @e_i.eq_1
 apply Spec.fn Tryz.func98 rfl
 focus (simp[Tryz.f98]<;>exact rfl)
 focus
  refine wb_ T (g:=?_)
  apply TO.bl e_i ([1]:List Int) (wn T) rfl (by simp only[zz,y84,e_i,Nat.reduceAdd,Nat.reduceMul,Nat.reduceLeDiff,Nat.reduceEqDiff,tslice,tparts];exact rfl) rfl rfl
  repeat exact sd T
  refine wa_ T (g:=?_)
  obtain⟨v13,h9,hr⟩:=bs hr
  refine TX.loopE (step:=dE v1 v2 v3) (x:=([1]:List Int)) h9 (fun v5=>⟨.U::.fptr true [.v (.int .i64 v1),.v (.int .i64 v2),.v (.int .i64 v3)] 0::.U::.lsl 0 0 v5.length::.U::.U::.U::.U::.U::.U::.U::.U::.U::.U::.U::.U::.U::.U::.U::.U::.U::.U::.U::.U::.U::.U::[],[.rows 1 (v5.map e_i)]⟩) (fun v9=>(.exit 0,⟨.U::.U::.U::.lsl 0 0 v9.length::.U::.U::.U::.U::.U::.U::.U::.U::.U::.U::.U::.U::.U::.U::.U::.U::.U::.U::.U::.U::.U::.U::[],[.rows 1 (v9.map e_i)]⟩)) ?_ ?_ ?_ ?_
  ·rintro v5 v0 hr
   dsimp only[dE] at hr
   try dsimp only
   refine wC T (g:=?_)
   rcases ifs hr with⟨h5,hr⟩|⟨h5,hr⟩
   ·have T:=an h5 T
    refine wC T (g:=?_)
    obtain⟨v10,h6,hr⟩:=bs hr
    have h6m:=eD (f:=e_i) h6
    have h6l:=gC h6
    try simp only[List.length_set] at h6l
    have h6a:=gB h6
    have T:=an h6m T
    have T:=an h6l T
    have T:=an h6a T
    refine wA T (g:=?_)
    obtain⟨v11,h7,hr⟩:=bs hr
    apply TD.cal (wn T) rfl wH (aX h7) rfl rfl rfl
    repeat exact sd T
    refine wa_ T (g:=?_)
    apply TD.bm e_i ([v11]:List Int) (wn T) rfl (by simp only[zz,y84,e_i,Nat.reduceAdd,Nat.reduceMul,Nat.reduceLeDiff,Nat.reduceEqDiff,tslice,tparts,h5,h6m,h6l,h6a];exact rfl) rfl
    repeat exact sd T
    refine wa_ T (g:=?_)
    obtain⟨v12,h8,hr⟩:=bs hr
    apply TD.ap (f:=e_i) (xs:=v5) (ys:=([v11]:List Int)) (wn T) rfl rfl (by first|rfl|simp only[List.length_set]) rfl rfl so24 ni24 zc3 rfl (by rw[by3];exact h8) (fun _=>⟨rfl,rfl,rfl⟩) rfl
    repeat exact sd T
    refine wa_ T (g:=?_)
    cases hr
    refine⟨rfl,?_⟩
    exact wk_ T [some 0] rfl (.rows .nil rfl rfl)
   ·have T:=an h5 T
    refine wa_ T (g:=?_)
    cases hr
    refine⟨rfl,?_⟩
    exact wk_ T [some 0] rfl (.rows .nil rfl rfl)
  ·intro e h;cases h
  ·try dsimp only
   refine wa_ T (g:=?_)
   cases hr
   refine⟨.inr rfl,_,(ry T),?_⟩
   exact wr [some 0] rfl (.rows .nil rfl rfl)
  ·try dsimp only
   exact wr [some 0] rfl (.rows .nil rfl rfl)
 rfl
end Go.Rex
namespace Go.Rex
open Go.Proofs
open Go Go.Rex Go.RowKit
set_option maxRecDepth 100000
set_option maxHeartbeats 1000000
def y85:=an @ag108 <| an @ag3 <| an @by3 <| an @cs108 <| an @cs3 <| an @pQ <| an @vR <| an @wS <| an @ok108 <| an @ok3 <| an @so24 <| an @zc3 <| an @aV <| @aAD
theorem eA{v1:Int}{v2:Int}{v3:Int}{v4:(List Int)}{v5:(List Int)}(hr:bD v1 v2 v3 v4=some (v5)):Spec (lim Tryz.prog) 63 [.agg [.v (.int .i64 v1),.v (.int .i64 v2),.v (.int .i64 v3)],.list 1 (v4.map e_i)] ⟨[.lsl 0 0 v5.length],[.rows 1 (v5.map e_i)]⟩:=by
 unfold bD at hr
 have T:=an y85 <| @e_i.eq_1
 apply Spec.fn Tryz.func63 rfl
 focus (simp[Tryz.f63]<;>exact rfl)
 focus
  refine wB T (g:=?_)
  obtain⟨v6,h1,hr⟩:=bs hr
  apply TO.cal (wn T) rfl aCX (tE h1) rfl rfl rfl
  repeat exact sd T
  refine wA T (g:=?_)
  obtain⟨v7,h2,hr⟩:=bs hr
  apply TO.mk e_i h2 (wn T) rfl rfl so24 zc3 by3 rfl rfl rfl
  repeat exact sd T
  refine wc_ T (g:=?_)
  obtain⟨v41,h39,hr⟩:=bs hr
  refine TX.loopE (step:=bX v1 v2 v3 v4 v6 v7) (x:=(v7,0)) h39 (fun (v8,v9)=>⟨.U::.list 1 (v4.map e_i)::.fptr true [.v (.int .i64 v1),.v (.int .i64 v2),.v (.int .i64 v3)] 0::.U::.U::.lsl 0 0 v6.length::.lsl 1 0 v8.length::.U::.U::.U::.U::.U::.U::.U::.U::.U::.U::.v (.int .i64 (v7.length:Int))::.v (.int .i64 v9)::.U::.U::.U::.U::.U::.U::.U::.U::.U::.U::.U::.U::.U::.U::.U::.U::.U::.U::.U::.U::.U::.U::.U::.U::.U::.U::.U::.U::.U::.U::.U::.U::.U::.U::.U::.U::.U::.U::.U::.U::.U::.U::.U::.U::[],[.rows 1 (v6.map e_i),.rows 1 (v8.map e_i)]⟩) (fun v25=>(.exit 0,⟨.U::.U::.U::.U::.U::.U::.lsl 0 0 v25.length::.U::.U::.U::.U::.U::.U::.U::.U::.U::.U::.U::.U::.U::.U::.U::.U::.U::.U::.U::.U::.U::.U::.U::.U::.U::.U::.U::.U::.U::.U::.U::.U::.U::.U::.U::.U::.U::.U::.U::.U::.U::.U::.U::.U::.U::.U::.U::.U::.U::.U::.U::.U::.U::.U::.U::.U::[],[.rows 1 (v25.map e_i)]⟩)) ?_ ?_ ?_ ?_
  ·rintro⟨v8,v9⟩ v0 hr
   dsimp only[bX] at hr
   try dsimp only
   refine wa_ T (g:=?_)
   rcases ifs hr with⟨h21,hr⟩|⟨h21,hr⟩
   ·have T:=an h21 T
    refine wc_ T (g:=?_)
    obtain⟨v39,h36,hr⟩:=bs hr
    refine TX.loopE (step:=bG v1 v2 v3 v4 v6 v9) (x:=(v8,0)) h36 (fun (v26,v27)=>⟨.U::.list 1 (v4.map e_i)::.fptr true [.v (.int .i64 v1),.v (.int .i64 v2),.v (.int .i64 v3)] 0::.U::.U::.lsl 0 0 v6.length::.lsl 1 0 v26.length::.v (.int .i64 v9)::.U::.U::.U::.U::.U::.U::.U::.U::.U::.v (.int .i64 (v7.length:Int))::.v (.int .i64 v9)::.U::.U::.list 1 (v4.map e_i)::.v (.int .i64 (v4.length:Int))::.v (.int .i64 v27)::.U::.U::.U::.U::.U::.U::.U::.U::.U::.U::.U::.U::.U::.U::.U::.U::.U::.U::.U::.U::.U::.U::.U::.U::.U::.U::.U::.U::.U::.U::.U::.U::.U::.U::.U::.U::.U::.U::.U::[],[.rows 1 (v6.map e_i),.rows 1 (v26.map e_i)]⟩) (fun v33=>(.exit 2,⟨.U::.list 1 (v4.map e_i)::.fptr true [.v (.int .i64 v1),.v (.int .i64 v2),.v (.int .i64 v3)] 0::.U::.U::.lsl 0 0 v6.length::.lsl 1 0 v33.length::.v (.int .i64 v9)::.U::.U::.U::.U::.U::.U::.U::.U::.U::.v (.int .i64 (v7.length:Int))::.v (.int .i64 v9)::.U::.U::.U::.U::.U::.U::.U::.U::.U::.U::.U::.U::.U::.U::.U::.U::.U::.U::.U::.U::.U::.U::.U::.U::.U::.U::.U::.U::.U::.U::.U::.U::.U::.U::.U::.U::.U::.U::.U::.U::.U::.U::.U::.U::[],[.rows 1 (v6.map e_i),.rows 1 (v33.map e_i)]⟩)) ?_ ?_ ?_ ?_
    ·rintro⟨v26,v27⟩ v0 hr
     dsimp only[bG] at hr
     try dsimp only
     refine wa_ T (g:=?_)
     rcases ifs hr with⟨h29,hr⟩|⟨h29,hr⟩
     ·have T:=an h29 T
      refine wa_ T (g:=?_)
      obtain⟨v34,h30,hr⟩:=bs hr
      have T:=an (gx e_i h30) T
      refine wA T (g:=?_)
      obtain⟨v35,h31,hr⟩:=bs hr
      have h31m:=eD (f:=e_i) h31
      have h31l:=gC h31
      try simp only[List.length_set] at h31l
      have h31a:=gB h31
      have T:=an h31m T
      have T:=an h31l T
      have T:=an h31a T
      refine wA T (g:=?_)
      obtain⟨v36,h32,hr⟩:=bs hr
      apply TD.cal (wn T) rfl Ry (oE h32) rfl rfl rfl
      repeat exact sd T
      refine wA T (g:=?_)
      by_cases h33:v3=0
      ·rw[a9 h33] at hr
       cases hr
      ·rw[b6 h33] at hr
       have T:=an h33 T
       refine wa_ T (g:=?_)
       obtain⟨v37,h34,hr⟩:=bs hr
       have T:=an (gx e_i h34) T
       refine wA T (g:=?_)
       obtain⟨v38,h35,hr⟩:=bs hr
       apply TD.cal (wn T) rfl wH (aX h35) rfl rfl rfl
       repeat exact sd T
       refine wa_ T (g:=?_)
       apply TD.sr e_i v26 v35 (IntKind.i64.wrap (v35+v38)) h31a (wn T) rfl rfl rfl rfl rfl ok3 (by rw[cs3];rfl) rfl rfl rfl rfl rfl
       repeat exact sd T
       refine wa_ T (g:=?_)
       cases hr
       refine⟨rfl,?_⟩
       exact wk_ T [some 0,some 1] rfl (.rows (.rows .nil rfl rfl) rfl rfl)
     ·have T:=an h29 T
      refine wa_ T (g:=?_)
      cases hr
      refine⟨rfl,?_⟩
      exact wk_ T [some 0,some 1] rfl (.rows (.rows .nil rfl rfl) rfl rfl)
    ·intro e h;cases h
    ·try dsimp only
     refine wa_ T (g:=?_)
     obtain⟨v40,h37,hr⟩:=bs hr
     have h37m:=eD (f:=e_i) h37
     have h37l:=gC h37
     try simp only[List.length_set] at h37l
     have h37a:=gB h37
     have T:=an h37m T
     have T:=an h37l T
     have T:=an h37a T
     refine wA T (g:=?_)
     by_cases h38:v1=0
     ·rw[a9 h38] at hr
      cases hr
     ·rw[b6 h38] at hr
      have T:=an h38 T
      refine wa_ T (g:=?_)
      apply TD.sr e_i v39 v40 (v40.tmod v1) h37a (wn T) rfl rfl rfl rfl rfl ok3 (by rw[cs3];rfl) rfl rfl rfl rfl rfl
      repeat exact sd T
      refine wa_ T (g:=?_)
      cases hr
      refine⟨rfl,?_⟩
      exact wk_ T [some 0,some 1] rfl (.rows (.rows .nil rfl rfl) rfl rfl)
    ·try dsimp only
     exact wk_ T [some 0,some 1] rfl (.rows (.rows .nil rfl rfl) rfl rfl)
   ·have T:=an h21 T
    refine wa_ T (g:=?_)
    cases hr
    refine⟨rfl,?_⟩
    exact wk_ T [some 1] rfl (.rows .nil rfl rfl)
  ·intro e h;cases h
  ·try dsimp only
   refine wa_ T (g:=?_)
   cases hr
   refine⟨.inr rfl,_,(ry T),?_⟩
   exact wr [some 0] rfl (.rows .nil rfl rfl)
  ·try dsimp only
   exact wr [some 0,some 1] rfl (.rows (.rows .nil rfl rfl) rfl rfl)
 rfl
end Go.Rex
namespace Go.Rex
open Go.Proofs
open Go Go.Rex Go.RowKit
set_option maxRecDepth 100000
set_option maxHeartbeats 200000
def y86:=an @ag115 <| an @ag3 <| an @by3 <| an @cs115 <| an @cs3 <| an @xG <| an @xK <| an @ni24 <| an @ok115 <| an @so24 <| an @so90 <| an @zc115 <| an @zc3 <| @aV
theorem Be{v1:(List (Int×Int))}{v2:(List Int)}{v3:(List Int)}(hr:nX v1=some (v2,v3)):Spec (lim Tryz.prog) 65 [.list 2 (v1.map e_ii)] ⟨[.tuple [.lsl 0 0 v2.length,.lsl 1 0 v3.length]],[.rows 1 (v2.map e_i),.rows 1 (v3.map e_i)]⟩:=by
 unfold nX at hr
 have T:=an y86 <| an @e_i.eq_1 <| @e_ii.eq_1
 apply Spec.fn Tryz.func65 rfl
 focus (simp[Tryz.f65]<;>exact rfl)
 focus
  refine wc_ T (g:=?_)
  apply TX.vt (α:=Int) e_i 2 1 rfl
  repeat exact sd T
  with_reducible apply TX.here
  refine wa_ T (g:=?_)
  apply TX.vt (α:=Int) e_i 3 1 rfl
  repeat exact sd T
  with_reducible apply TX.here
  refine wa_ T (g:=?_)
  obtain⟨⟨v17,v18⟩,h9,hr⟩:=bs hr
  try dsimp only at hr
  refine TX.loopE (step:=gZ v1) (x:=(([]:List Int),([]:List Int),0)) h9 (fun (v4,v5,v6)=>⟨.U::.U::.lsl 0 0 v4.length::.lsl 1 0 v5.length::.U::.U::.list 2 (v1.map e_ii)::.v (.int .i64 (v1.length:Int))::.v (.int .i64 v6)::.U::.U::.U::.U::.U::.U::.U::.U::.U::.U::.U::.U::.U::.U::.U::.U::[],[.rows 1 (v4.map e_i),.rows 1 (v5.map e_i)]⟩) (fun (v11,v12)=>(.exit 0,⟨.U::.U::.lsl 0 0 v11.length::.lsl 1 0 v12.length::.U::.U::.U::.U::.U::.U::.U::.U::.U::.U::.U::.U::.U::.U::.U::.U::.U::.U::.U::.U::.U::[],[.rows 1 (v11.map e_i),.rows 1 (v12.map e_i)]⟩)) ?_ ?_ ?_ ?_
  ·rintro⟨v4,v5,v6⟩ v0 hr
   dsimp only[gZ] at hr
   try dsimp only
   refine wa_ T (g:=?_)
   rcases ifs hr with⟨h5,hr⟩|⟨h5,hr⟩
   ·have T:=an h5 T
    refine wa_ T (g:=?_)
    obtain⟨⟨v13,v14⟩,h6,hr⟩:=bs hr
    try dsimp only at hr
    have h6m:=eD (f:=e_ii) h6
    have h6l:=gC h6
    try simp only[List.length_set] at h6l
    have h6a:=gB h6
    have T:=an h6m T
    have T:=an h6l T
    have T:=an h6a T
    refine wA T (g:=?_)
    apply TO.bm e_i ([v13]:List Int) (wn T) rfl (by simp only[zz,y86,e_i,e_ii,Nat.reduceAdd,Nat.reduceMul,Nat.reduceLeDiff,Nat.reduceEqDiff,tslice,tparts,h5,h6m,h6l,h6a];exact rfl) rfl
    repeat exact sd T
    refine wa_ T (g:=?_)
    obtain⟨v15,h7,hr⟩:=bs hr
    apply TO.ap (f:=e_i) (xs:=v4) (ys:=([v13]:List Int)) (wn T) rfl rfl (by first|rfl|simp only[List.length_set]) rfl rfl so24 ni24 zc3 rfl (by rw[by3];exact h7) (fun _=>⟨rfl,rfl,rfl⟩)
    repeat exact sd T
    refine wA T (g:=?_)
    apply TO.bm e_i ([v14]:List Int) (wn T) rfl (by simp only[zz,y86,e_i,e_ii,Nat.reduceAdd,Nat.reduceMul,Nat.reduceLeDiff,Nat.reduceEqDiff,tslice,tparts,h5,h6m,h6l,h6a];exact rfl) rfl
    repeat exact sd T
    refine wa_ T (g:=?_)
    obtain⟨v16,h8,hr⟩:=bs hr
    apply TO.ap (f:=e_i) (xs:=v5) (ys:=([v14]:List Int)) (wn T) rfl rfl (by first|rfl|simp only[List.length_set]) rfl rfl so24 ni24 zc3 rfl (by rw[by3];exact h8) (fun _=>⟨rfl,rfl,rfl⟩)
    repeat exact sd T
    refine wa_ T (g:=?_)
    cases hr
    refine⟨rfl,?_⟩
    exact wk_ T [some 0,some 1] rfl (.rows (.rows .nil rfl rfl) rfl rfl)
   ·have T:=an h5 T
    refine wa_ T (g:=?_)
    cases hr
    refine⟨rfl,?_⟩
    exact wk_ T [some 0,some 1] rfl (.rows (.rows .nil rfl rfl) rfl rfl)
  ·intro e h;cases h
  ·try dsimp only
   refine wa_ T (g:=?_)
   cases hr
   refine⟨.inr rfl,_,(ry T),?_⟩
   exact wr [some 0,some 1] rfl (.rows (.rows .nil rfl rfl) rfl rfl)
  ·try dsimp only
   exact wr [some 0,some 1] rfl (.rows (.rows .nil rfl rfl) rfl rfl)
 rfl
def y87:=an @ag108 <| an @ag3 <| an @cs108 <| an @pQ <| an @vR <| @ok108
theorem jP{v1:Int}{v2:Int}{v3:Int}{v4:Int}{v5:Int}(hr:cX v1 v2 v3 v4=some (v5)):Spec (lim Tryz.prog) 126 [.agg [.v (.int .i64 v1),.v (.int .i64 v2),.v (.int .i64 v3)],.v (.int .i64 v4)] ⟨[.v (.int .i64 v5)],[]⟩:=by
 unfold cX at hr
 have T:=y87
 apply Spec.fn Tryz.func126 rfl
 focus (simp[Tryz.f126]<;>exact rfl)
 focus
  refine wB T (g:=?_)
  obtain⟨v6,h1,hr⟩:=bs hr
  apply TO.cal (wn T) rfl aAc (oN h1) rfl rfl rfl
  repeat exact sd T
  refine wa_ T (g:=?_)
  cases hr
  refine⟨.inr rfl,_,(ry T),?_⟩
  exact wr [] rfl .nil
 rfl
def y88:=an @ag108 <| an @ag3 <| an @by3 <| an @cs108 <| an @cs3 <| an @ni24 <| an @ok108 <| an @ok3 <| an @so24 <| an @zc3 <| @aV
theorem mK{v1:Int}{v2:Int}{v3:Int}{v4:(List Int)}{v5:(List Int)}{v6:(List Int)}(hr:fY v1 v2 v3 v4 v5=some (v6)):Spec (lim Tryz.prog) 101 [.agg [.v (.int .i64 v1),.v (.int .i64 v2),.v (.int .i64 v3)],.list 1 (v4.map e_i),.list 1 (v5.map e_i)] ⟨[.lsl 0 0 v6.length],[.rows 1 (v6.map e_i)]⟩:=by
 unfold fY at hr
 have T:=an y88 <| @e_i.eq_1
 apply Spec.fn Tryz.func101 rfl
 focus (simp[Tryz.f101]<;>exact rfl)
 focus
  refine wd_ T (g:=?_)
  apply TX.vt (α:=Int) e_i 7 1 rfl
  repeat exact sd T
  with_reducible apply TX.here
  refine wa_ T (g:=?_)
  obtain⟨v20,h13,hr⟩:=bs hr
  refine TX.loopE (step:=bP v1 v2 v3 v4 v5) (x:=(([]:List Int),0)) h13 (fun (v7,v8)=>⟨.U::.U::.list 1 (v5.map e_i)::.fptr true [.v (.int .i64 v1),.v (.int .i64 v2),.v (.int .i64 v3)] 0::.U::.U::.U::.lsl 0 0 v7.length::.U::.U::.list 1 (v4.map e_i)::.v (.int .i64 (v4.length:Int))::.v (.int .i64 v8)::.U::.U::.U::.U::.U::.U::.U::.U::.U::.U::.U::.U::.U::.U::.U::.U::.U::.U::[],[.rows 1 (v7.map e_i)]⟩) (fun v14=>(.exit 0,⟨.U::.U::.U::.U::.U::.U::.U::.lsl 0 0 v14.length::.U::.U::.U::.U::.U::.U::.U::.U::.U::.U::.U::.U::.U::.U::.U::.U::.U::.U::.U::.U::.U::.U::.U::[],[.rows 1 (v14.map e_i)]⟩)) ?_ ?_ ?_ ?_
  ·rintro⟨v7,v8⟩ v0 hr
   dsimp only[bP] at hr
   try dsimp only
   refine wa_ T (g:=?_)
   rcases ifs hr with⟨h7,hr⟩|⟨h7,hr⟩
   ·have T:=an h7 T
    refine wa_ T (g:=?_)
    obtain⟨v15,h8,hr⟩:=bs hr
    have h8m:=eD (f:=e_i) h8
    have h8l:=gC h8
    try simp only[List.length_set] at h8l
    have h8a:=gB h8
    have T:=an h8m T
    have T:=an h8l T
    have T:=an h8a T
    refine wA T (g:=?_)
    obtain⟨v16,h9,hr⟩:=bs hr
    have h9m:=eD (f:=e_i) h9
    have h9l:=gC h9
    try simp only[List.length_set] at h9l
    have h9a:=gB h9
    have T:=an h9m T
    have T:=an h9l T
    have T:=an h9a T
    refine wA T (g:=?_)
    obtain⟨v17,h10,hr⟩:=bs hr
    apply TD.cal (wn T) rfl Kk (jP h10) rfl rfl rfl
    repeat exact sd T
    refine wa_ T (g:=?_)
    obtain⟨v18,h11,hr⟩:=bs hr
    apply TD.cal (wn T) rfl wH (aX h11) rfl rfl rfl
    repeat exact sd T
    refine wa_ T (g:=?_)
    apply TD.bm e_i ([v18]:List Int) (wn T) rfl (by simp only[zz,y88,e_i,Nat.reduceAdd,Nat.reduceMul,Nat.reduceLeDiff,Nat.reduceEqDiff,tslice,tparts,h7,h8m,h8l,h8a,h9m,h9l,h9a];exact rfl) rfl
    repeat exact sd T
    refine wa_ T (g:=?_)
    obtain⟨v19,h12,hr⟩:=bs hr
    apply TD.ap (f:=e_i) (xs:=v7) (ys:=([v18]:List Int)) (wn T) rfl rfl (by first|rfl|simp only[List.length_set]) rfl rfl so24 ni24 zc3 rfl (by rw[by3];exact h12) (fun _=>⟨rfl,rfl,rfl⟩) rfl
    repeat exact sd T
    refine wa_ T (g:=?_)
    cases hr
    refine⟨rfl,?_⟩
    exact wk_ T [some 0] rfl (.rows .nil rfl rfl)
   ·have T:=an h7 T
    refine wa_ T (g:=?_)
    cases hr
    refine⟨rfl,?_⟩
    exact wk_ T [some 0] rfl (.rows .nil rfl rfl)
  ·intro e h;cases h
  ·try dsimp only
   refine wa_ T (g:=?_)
   cases hr
   refine⟨.inr rfl,_,(ry T),?_⟩
   exact wr [some 0] rfl (.rows .nil rfl rfl)
  ·try dsimp only
   exact wr [some 0] rfl (.rows .nil rfl rfl)
 rfl
def y89:=an @ag108 <| an @ag3 <| an @cs108 <| an @cs3 <| an @pQ <| an @Bx <| an @wS <| an @ok108 <| an @ok3 <| an @so24 <| an @zc108 <| @aV
theorem oW{v1:Int}{v2:Int}{v3:Int}{v4:(List Int)}{v5:(List Int)}(hr:jS v1 v2 v3 v4=some (v5)):Spec (lim Tryz.prog) 100 [.agg [.v (.int .i64 v1),.v (.int .i64 v2),.v (.int .i64 v3)],.list 1 (v4.map e_i)] ⟨[.lsl 0 0 v5.length],[.rows 1 (v5.map e_i)]⟩:=by
 unfold jS at hr
 have T:=an y89 <| @e_i.eq_1
 apply Spec.fn Tryz.func100 rfl
 focus (simp[Tryz.f100]<;>exact rfl)
 focus
  refine wB T (g:=?_)
  obtain⟨v6,h1,hr⟩:=bs hr
  apply TO.cal (wn T) rfl Kk (jP h1) rfl rfl rfl
  repeat exact sd T
  refine wA T (g:=?_)
  obtain⟨v7,h2,hr⟩:=bs hr
  apply TO.cal (wn T) rfl Kk (jP h2) rfl rfl rfl
  repeat exact sd T
  refine wA T (g:=?_)
  obtain⟨v8,h3,hr⟩:=bs hr
  apply TO.cal (wn T) rfl Lv (eA h3) rfl rfl rfl
  repeat exact sd T
  refine wc_ T (g:=?_)
  obtain⟨v16,h10,hr⟩:=bs hr
  refine TX.loopE (step:=eV v1 v2 v3 v7 v8) (x:=(v8,0)) h10 (fun (v9,v10)=>⟨.U::.U::.fptr true [.v (.int .i64 v1),.v (.int .i64 v2),.v (.int .i64 v3)] 0::.U::.U::.U::.v (.int .i64 v7)::.lsl 0 0 v9.length::.U::.U::.U::.U::.U::.U::.U::.U::.U::.U::.U::.U::.U::.U::.U::.U::.U::.U::.lsl 0 0 v9.length::.v (.int .i64 (v8.length:Int))::.v (.int .i64 v10)::.U::.U::.U::.U::.U::.U::.U::.U::.U::.U::.U::.U::.U::[],[.rows 1 (v9.map e_i)]⟩) (fun v13=>(.exit 0,⟨.U::.U::.U::.U::.U::.U::.U::.lsl 0 0 v13.length::.U::.U::.U::.U::.U::.U::.U::.U::.U::.U::.U::.U::.U::.U::.U::.U::.U::.U::.U::.U::.U::.U::.U::.U::.U::.U::.U::.U::.U::.U::.U::.U::.U::.U::[],[.rows 1 (v13.map e_i)]⟩)) ?_ ?_ ?_ ?_
  ·rintro⟨v9,v10⟩ v0 hr
   dsimp only[eV] at hr
   try dsimp only
   refine wa_ T (g:=?_)
   rcases ifs hr with⟨h7,hr⟩|⟨h7,hr⟩
   ·have T:=an h7 T
    refine wa_ T (g:=?_)
    obtain⟨v14,h8,hr⟩:=bs hr
    have h8m:=eD (f:=e_i) h8
    have h8l:=gC h8
    try simp only[List.length_set] at h8l
    have h8a:=gB h8
    have T:=an h8m T
    have T:=an h8l T
    have T:=an h8a T
    refine wA T (g:=?_)
    obtain⟨v15,h9,hr⟩:=bs hr
    apply TO.cal (wn T) rfl wH (aX h9) rfl rfl rfl
    repeat exact sd T
    refine wa_ T (g:=?_)
    apply TO.sr e_i v9 v14 v15 h8a (wn T) rfl rfl rfl rfl rfl ok3 (by rw[cs3];rfl) rfl rfl rfl rfl
    repeat exact sd T
    refine wa_ T (g:=?_)
    cases hr
    refine⟨rfl,?_⟩
    exact wk_ T [some 0] rfl (.rows .nil rfl rfl)
   ·have T:=an h7 T
    refine wa_ T (g:=?_)
    cases hr
    refine⟨rfl,?_⟩
    exact wk_ T [some 0] rfl (.rows .nil rfl rfl)
  ·intro e h;cases h
  ·try dsimp only
   refine wa_ T (g:=?_)
   cases hr
   refine⟨.inr rfl,_,(ry T),?_⟩
   exact wr [some 0] rfl (.rows .nil rfl rfl)
  ·try dsimp only
   exact wr [some 1] rfl (.rows .nil rfl rfl)
 rfl
def y90:=an @ag3 <| an @pQ <| @vR
theorem tC{v1:Int}{v2:Int}{v3:Int}{v4:Int}{v5:Int}(hr:iC v1 v2 v3 v4=some (v5)):Spec (lim Tryz.prog) 102 [.agg [.v (.int .i64 v1),.v (.int .i64 v2),.v (.int .i64 v3)],.v (.int .i64 v4)] ⟨[.v (.int .i64 v5)],[]⟩:=by
 unfold iC at hr
 have T:=y90
 apply Spec.fn Tryz.func102 rfl
 focus (simp[Tryz.f102]<;>exact rfl)
 focus
  refine wB T (g:=?_)
  rcases ifs hr with⟨h1,hr⟩|⟨h1,hr⟩
  ·have T:=an h1 T
   refine wA T (g:=?_)
   cases hr
   refine⟨.inr rfl,_,(ry T),?_⟩
   exact wk_ T [] rfl .nil
  ·have T:=an h1 T
   refine wa_ T (g:=?_)
   cases hr
   refine⟨.inr rfl,_,(ry T),?_⟩
   exact wk_ T [] rfl .nil
 rfl
def y91:=an @ag108 <| an @ag3 <| an @cs108 <| an @cs3 <| an @ok108 <| an @ok3 <| an @so24 <| @aV
theorem eY{v1:Int}{v2:Int}{v3:Int}{v4:(List Int)}{v5:(List Int)}{v6:(List Int)}(hr:bU v1 v2 v3 v4 v5=some (v6)):Spec (lim Tryz.prog) 66 [.agg [.v (.int .i64 v1),.v (.int .i64 v2),.v (.int .i64 v3)],.list 1 (v4.map e_i),.list 1 (v5.map e_i)] ⟨[.lsl 0 0 v6.length],[.rows 1 (v6.map e_i)]⟩:=by
 unfold bU at hr
 have T:=an y91 <| @e_i.eq_1
 apply Spec.fn Tryz.func66 rfl
 focus (simp[Tryz.f66]<;>exact rfl)
 focus
  refine wB T (g:=?_)
  obtain⟨v7,h1,hr⟩:=bs hr
  apply TD.cal (wn T) rfl Lv (eA h1) rfl rfl rfl
  repeat exact sd T
  refine wa_ T (g:=?_)
  obtain⟨v8,h2,hr⟩:=bs hr
  first|apply TD.lok (wn T) rfl Tg (mK h2) (vw T) rfl rfl (by simp[kL,cl,e_ff,e_c,e_i,e_ii])|apply TD.lokw (wn T) rfl Tg (mK h2) (vw T) rfl rfl (by simp[kL,cl,e_ff,e_c,e_i,e_ii]) rfl
  repeat exact sd T
  refine wa_ T (g:=?_)
  obtain⟨v9,h3,hr⟩:=bs hr
  first|apply TD.lok (wn T) rfl Vg (oW h3) (vw T) rfl rfl (by simp[kL,cl,e_ff,e_c,e_i,e_ii])|apply TD.lokw (wn T) rfl Vg (oW h3) (vw T) rfl rfl (by simp[kL,cl,e_ff,e_c,e_i,e_ii]) rfl
  repeat exact sd T
  refine wc_ T (g:=?_)
  obtain⟨v17,h10,hr⟩:=bs hr
  refine TX.loopE (step:=cH v1 v2 v3 v9) (x:=(v9,0)) h10 (fun (v10,v11)=>⟨.U::.U::.U::.fptr true [.v (.int .i64 v1),.v (.int .i64 v2),.v (.int .i64 v3)] 0::.U::.U::.U::.lsl 0 0 v10.length::.U::.U::.U::.U::.U::.U::.U::.U::.U::.U::.lsl 0 0 v10.length::.v (.int .i64 (v9.length:Int))::.v (.int .i64 v11)::.U::.U::.U::.U::.U::.U::.U::.U::.U::.U::.U::.U::[],[.rows 1 (v10.map e_i)]⟩) (fun v14=>(.exit 0,⟨.U::.U::.U::.U::.U::.U::.U::.lsl 0 0 v14.length::.U::.U::.U::.U::.U::.U::.U::.U::.U::.U::.U::.U::.U::.U::.U::.U::.U::.U::.U::.U::.U::.U::.U::.U::.U::[],[.rows 1 (v14.map e_i)]⟩)) ?_ ?_ ?_ ?_
  ·rintro⟨v10,v11⟩ v0 hr
   dsimp only[cH] at hr
   try dsimp only
   refine wa_ T (g:=?_)
   rcases ifs hr with⟨h7,hr⟩|⟨h7,hr⟩
   ·have T:=an h7 T
    refine wa_ T (g:=?_)
    obtain⟨v15,h8,hr⟩:=bs hr
    have h8m:=eD (f:=e_i) h8
    have h8l:=gC h8
    try simp only[List.length_set] at h8l
    have h8a:=gB h8
    have T:=an h8m T
    have T:=an h8l T
    have T:=an h8a T
    refine wA T (g:=?_)
    obtain⟨v16,h9,hr⟩:=bs hr
    apply TO.cal (wn T) rfl aBp (tC h9) rfl rfl rfl
    repeat exact sd T
    refine wa_ T (g:=?_)
    apply TO.sr e_i v10 v15 v16 h8a (wn T) rfl rfl rfl rfl rfl ok3 (by rw[cs3];rfl) rfl rfl rfl rfl
    repeat exact sd T
    refine wa_ T (g:=?_)
    cases hr
    refine⟨rfl,?_⟩
    exact wk_ T [some 0] rfl (.rows .nil rfl rfl)
   ·have T:=an h7 T
    refine wa_ T (g:=?_)
    cases hr
    refine⟨rfl,?_⟩
    exact wk_ T [some 0] rfl (.rows .nil rfl rfl)
  ·intro e h;cases h
  ·try dsimp only
   refine wa_ T (g:=?_)
   cases hr
   refine⟨.inr rfl,_,(ry T),?_⟩
   exact wr [some 0] rfl (.rows .nil rfl rfl)
  ·try dsimp only
   exact wr [some 2] rfl (.rows .nil rfl rfl)
 rfl
end Go.Rex
namespace Go.Rex
open Go.Proofs
open Go Go.Rex Go.RowKit
set_option maxRecDepth 100000
set_option maxHeartbeats 1000000
def y92:=an @ag108 <| an @ag26 <| an @ag3 <| an @ag32 <| an @ag47 <| an @ag84 <| an @by115 <| an @cs108 <| an @cs115 <| an @cs26 <| an @cs3 <| an @cs47 <| an @cs84 <| an @cs87 <| an @Sa <| an @Yb <| an @ni90 <| an @ok108 <| an @ok26 <| an @ok3 <| an @ok47 <| an @ok84 <| an @so131 <| an @so24 <| an @so90 <| an @st108 <| an @st115 <| an @st84 <| an @zc108 <| an @zc115 <| an @zc84 <| an @zc87 <| @aV
theorem oV{v1:(List (Nat×Nat))}{v2:Int}{v3:(List Int)}{v4:Int}{v5:Int}{v6:Int}{v7:Int}{v8:(List (Nat×Nat))}{v9:Int}(hr:gV v1 v2 v3 v4 v5 v6 v7=some (v8,v9)):Spec (lim Tryz.prog) 20 [.list 1 (v1.map e_c),.agg [.v (.int .i64 v2),.list 1 (v3.map e_i),.v (.int .i64 v4)],.agg [.v (.int .i64 v5),.v (.int .i64 v6),.v (.int .i64 v7)]] ⟨[.tuple [.lsl 0 0 v8.length,.v (.int .i64 v9)]],[.rows 1 (v8.map e_c)]⟩:=by
 unfold gV at hr
 have T:=an y92 <| an @e_c.eq_1 <| an @e_i.eq_1 <| @e_ii.eq_1
 apply Spec.fn Tryz.func20 rfl
 focus (simp[Tryz.f20]<;>exact rfl)
 focus
  repeat (first|(with_reducible first|refine mv ?_|refine m12 rfl ?_|refine TO.nil ?_)|((with_reducible first|apply TO.bf|apply TO.asg);(repeat (focus (show _=_;first|exact k1 rfl|exact k2 rfl|(simp only[zz,y92,e_c,e_i,e_ii,Nat.reduceAdd,Nat.reduceMul,Nat.reduceLeDiff,Nat.reduceEqDiff]<;>exact rfl)|exact rfl)));(with_reducible apply TO.here))|((with_reducible apply TX.region);(focus (simp only[zl]<;>exact rfl));(focus rfl);(try dsimp only))|with_reducible refine TD.nil ?_|((with_reducible first|apply TD.fa|apply TD.ld|apply TD.bld|apply TD.al|apply TD.sv);(repeat (focus (show _=_;first|exact k1 rfl|exact k2 rfl|(simp only[zz,y92,e_c,e_i,e_ii,Nat.reduceAdd,Nat.reduceMul,Nat.reduceLeDiff,Nat.reduceEqDiff,aJ,tload,dV,dN,List.getElem?_map,tbuild,tfill]<;>exact rfl)|exact rfl)));(with_reducible refine TD.here ?_))|((with_reducible apply TD.ldF);(focus decide +kernel);(repeat (focus (show _=_;first|exact k1 rfl|exact k2 rfl|(simp only[zz,y92,e_c,e_i,e_ii,Nat.reduceAdd,Nat.reduceMul,Nat.reduceLeDiff,Nat.reduceEqDiff,aJ,tload,dV,dN,List.getElem?_map,tbuild,tfill]<;>exact rfl)|exact rfl)));(with_reducible refine TD.here ?_))|((with_reducible apply TX.drawn);(focus decide +kernel);(focus (simp only[zl]<;>exact rfl));(focus exact rfl);(try dsimp only))|fail)
  obtain⟨v10,h1,hr⟩:=bs hr
  first|apply TD.cal (wn T) rfl Fs (jK h1) rfl rfl rfl|apply TD.calF (by decide +kernel) (wn T) rfl Fs (jK h1) rfl rfl rfl rfl
  repeat exact sd T
  refine wA T (g:=?_)
  obtain⟨⟨v11,v12,v13⟩,h2,hr⟩:=bs hr
  try dsimp only at hr
  first|apply TD.cal (wn T) rfl Ly (cZ h2) rfl rfl rfl|apply TD.calF (by decide +kernel) (wn T) rfl Ly (cZ h2) rfl rfl rfl rfl
  repeat exact sd T
  refine wA T (g:=?_)
  apply TD.frz 0 rfl rfl
  repeat exact sd T
  refine we_ T (g:=?_)
  obtain⟨v14,h3,hr⟩:=bs hr
  first|apply TD.cal (wn T) rfl nL (lT h3) rfl rfl rfl|apply TD.calF (by decide +kernel) (wn T) rfl nL (lT h3) rfl rfl rfl rfl
  repeat exact sd T
  refine wa_ T (g:=?_)
  rcases ifs hr with⟨h4,hr⟩|⟨h4,hr⟩
  ·have T:=an h4 T
   refine wa_ T (g:=?_)
   cases hr
   refine⟨.inr rfl,_,(ry T),?_⟩
   exact wk_ T [none] rfl (.virt .nil)
  ·have T:=an h4 T
   refine wA T (g:=?_)
   obtain⟨v15,h5,hr⟩:=bs hr
   first|apply TD.cal (wn T) rfl Ss (hU h5) rfl rfl rfl|apply TD.calF (by decide +kernel) (wn T) rfl Ss (hU h5) rfl rfl rfl rfl
   repeat exact sd T
   refine wa_ T (g:=?_)
   obtain⟨v16,h6,hr⟩:=bs hr
   first|apply TD.lok (wn T) rfl Lv (eA h6) (vw T) rfl rfl (by simp[kL,cl,e_ff,e_c,e_i,e_ii])|apply TD.lokw (wn T) rfl Lv (eA h6) (vw T) rfl rfl (by simp[kL,cl,e_ff,e_c,e_i,e_ii]) rfl
   repeat exact sd T
   refine wA T (g:=?_)
   obtain⟨v17,h7,hr⟩:=bs hr
   apply TO.cal (wn T) rfl Ks (jJ h7) rfl rfl rfl
   repeat exact sd T
   refine wa_ T (g:=?_)
   obtain⟨⟨v18,v19⟩,h8,hr⟩:=bs hr
   try dsimp only at hr
   apply TO.lok (wn T) rfl aC0 (Be h8) (vw T) rfl rfl (by simp[kL,cl,e_ff,e_c,e_i,e_ii])
   repeat exact sd T
   refine wA T (g:=?_)
   obtain⟨v20,h9,hr⟩:=bs hr
   first|apply TD.lok (wn T) rfl Kw (eY h9) (vw T) rfl rfl (by simp[kL,cl,e_ff,e_c,e_i,e_ii])|apply TD.lokw (wn T) rfl Kw (eY h9) (vw T) rfl rfl (by simp[kL,cl,e_ff,e_c,e_i,e_ii]) rfl
   repeat exact sd T
   refine wA T (g:=?_)
   obtain⟨v21,h10,hr⟩:=bs hr
   first|apply TD.lok (wn T) rfl Kw (eY h10) (vw T) rfl rfl (by simp[kL,cl,e_ff,e_c,e_i,e_ii])|apply TD.lokw (wn T) rfl Kw (eY h10) (vw T) rfl rfl (by simp[kL,cl,e_ff,e_c,e_i,e_ii]) rfl
   repeat exact sd T
   refine wc_ T (g:=?_)
   apply TX.vt (α:=(Int×Int)) e_ii 16 2 rfl
   repeat exact sd T
   with_reducible apply TX.here
   refine wa_ T (g:=?_)
   obtain⟨v31,h19,hr⟩:=bs hr
   refine TX.loopE (step:=bZ v20 v21) (x:=(([]:List (Int×Int)),0)) h19 (fun (v22,v23)=>⟨.U::.U::.U::.U::.U::.U::.U::.U::.U::.U::.U::.U::.U::.U::.lsl 0 0 v20.length::.lsl 1 0 v21.length::.lsl 2 0 v22.length::.U::.U::.U::.U::.U::.U::.U::.U::.U::.U::.U::.U::.U::.U::.U::.U::.U::.U::.U::.U::.U::.U::.U::.U::.U::.U::.U::.U::.U::.U::.U::.U::.U::.U::.U::.U::.U::.U::.U::.U::.U::.U::.U::.U::.U::.v (.int .i64 (v20.length:Int))::.v (.int .i64 v23)::.U::.U::.U::.U::.U::.U::.U::.U::.U::.U::.U::.U::.U::.U::.U::.U::.U::.U::.U::[],[.rows 1 (v20.map e_i),.rows 1 (v21.map e_i),.rows 2 (v22.map e_ii)]⟩) (fun v27=>(.exit 0,⟨.U::.U::.U::.U::.U::.U::.U::.U::.U::.U::.U::.U::.U::.U::.U::.U::.lsl 0 0 v27.length::.U::.U::.U::.U::.U::.U::.U::.U::.U::.U::.U::.U::.U::.U::.U::.U::.U::.U::.U::.U::.U::.U::.U::.U::.U::.U::.U::.U::.U::.U::.U::.U::.U::.U::.U::.U::.U::.U::.U::.U::.U::.U::.U::.U::.U::.U::.U::.U::.U::.U::.U::.U::.U::.U::.U::.U::.U::.U::.U::.U::.U::.U::.U::.U::.U::.U::[],[.rows 2 (v27.map e_ii)]⟩)) ?_ ?_ ?_ ?_
   ·rintro⟨v22,v23⟩ v0 hr
    dsimp only[bZ] at hr
    try dsimp only
    refine wa_ T (g:=?_)
    rcases ifs hr with⟨h15,hr⟩|⟨h15,hr⟩
    ·have T:=an h15 T
     refine wa_ T (g:=?_)
     obtain⟨v28,h16,hr⟩:=bs hr
     have h16m:=eD (f:=e_i) h16
     have h16l:=gC h16
     try simp only[List.length_set] at h16l
     have h16a:=gB h16
     have T:=an h16m T
     have T:=an h16l T
     have T:=an h16a T
     refine wA T (g:=?_)
     obtain⟨v29,h17,hr⟩:=bs hr
     have h17m:=eD (f:=e_i) h17
     have h17l:=gC h17
     try simp only[List.length_set] at h17l
     have h17a:=gB h17
     have T:=an h17m T
     have T:=an h17l T
     have T:=an h17a T
     refine wA T (g:=?_)
     apply TD.bm e_ii ([(v28,v29)]:List (Int×Int)) (wn T) rfl (by simp only[zz,y92,e_c,e_i,e_ii,Nat.reduceAdd,Nat.reduceMul,Nat.reduceLeDiff,Nat.reduceEqDiff,tslice,tparts,h4,h15,h16m,h16l,h16a,h17m,h17l,h17a];exact rfl) rfl
     repeat exact sd T
     refine wa_ T (g:=?_)
     obtain⟨v30,h18,hr⟩:=bs hr
     apply TD.ap (f:=e_ii) (xs:=v22) (ys:=([(v28,v29)]:List (Int×Int))) (wn T) rfl rfl (by first|rfl|simp only[List.length_set]) rfl rfl so90 ni90 zc115 rfl (by rw[by115];exact h18) (fun _=>⟨rfl,rfl,rfl⟩) rfl
     repeat exact sd T
     refine wa_ T (g:=?_)
     cases hr
     refine⟨rfl,?_⟩
     exact wk_ T [some 0,some 1,some 2] rfl (.rows (.rows (.rows .nil rfl rfl) rfl rfl) rfl rfl)
    ·have T:=an h15 T
     refine wa_ T (g:=?_)
     cases hr
     refine⟨rfl,?_⟩
     exact wk_ T [some 2] rfl (.rows .nil rfl rfl)
   ·intro e h;cases h
   ·try dsimp only
    refine wa_ T (g:=?_)
    obtain⟨⟨v32,v33⟩,h20,hr⟩:=bs hr
    try dsimp only at hr
    apply TO.lok (wn T) rfl Fd (gM h20) (vw T) rfl rfl (by simp[kL,cl,e_ff,e_c,e_i,e_ii])
    repeat exact sd T
    refine wa_ T (g:=?_)
    cases hr
    refine⟨.inr rfl,_,(ry T),?_⟩
    exact wk_ T [some 1] rfl (.rows .nil rfl rfl)
   ·try dsimp only
    exact wk_ T [some 7,some 8,some 9] rfl (.rows (.rows (.rows .nil rfl rfl) rfl rfl) rfl rfl)
 rfl
end Go.Rex
namespace Go.Rex
open Go.Proofs
open Go Go.Rex Go.RowKit
set_option maxRecDepth 100000
theorem follows:Tryz.prog.follows .mixedOrders=true:=by decide +kernel
theorem awake_true:AwT Tryz.prog 5:=Kt follows (k:=1000) (d:=50) (by decide +kernel)
end Go.Rex
