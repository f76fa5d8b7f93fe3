/- Proofs that the program's functions do what these plain functions say. -/
import Derived.Test.YtplnankdicpenaaGB
import Derived.Test.YtplnankdicpenaaS
set_option linter.unusedSimpArgs false
set_option linter.unusedVariables false
set_option linter.defProp false
namespace Go.Rex
open Go.Proofs
open Go Go.Rex Go.RowKit
set_option maxRecDepth 100000
set_option maxHeartbeats 200000
theorem eT{v1:Int}{v2:Int}{v3:Int}{v4:Bool}(hr:aN v1 v2 v3=some (v4)):Spec (lim Try.prog) 8 [.v (.int .i64 v1),.v (.int .i64 v2),.v (.int .i64 v3)] ⟨[.v (.bool v4)],[]⟩:=by
 unfold aN at hr
 have T:=trivial
 apply Spec.fn Try.func8 rfl
 focus (simp[Try.f8]<;>exact rfl)
 focus
  refine wa_ T (g:=?_)
  rcases ifs hr with⟨h1,hr⟩|⟨h1,hr⟩
  ·have T:=an h1 T
   refine wa_ T (g:=?_)
   cases hr
   refine⟨.inr rfl,_,(ry T),?_⟩
   exact wk_ T [] rfl .nil
  ·have T:=an h1 T
   refine wa_ T (g:=?_)
   cases hr
   refine⟨.inr rfl,_,(ry T),?_⟩
   exact wk_ T [] rfl .nil
 rfl
end Go.Rex
namespace Go.Rex
open Go.Proofs
open Go Go.Rex Go.RowKit
set_option maxRecDepth 100000
set_option maxHeartbeats 1000000
def y1:=an @ag23 <| an @ag3 <| an @cs3 <| an @sL <| an @zV <| an @ok3 <| an @so23 <| @bP
theorem qV{v1:Int}{v2:(List Int)}{v3:Int}(hr:fY v1 v2=some (v3)):Spec (lim Try.prog) 59 [.agg [.v (.int .i64 v1),.list 1 (v2.map e_i)]] ⟨[.v (.int .i64 v3)],[]⟩:=by
 unfold fY at hr
 have T:=an y1 <| @e_i.eq_1
 apply Spec.fn Try.func59 rfl
 focus (simp[Try.f59]<;>exact rfl)
 focus
  refine wB T (g:=?_)
  obtain⟨v4,h1,hr⟩:=bs hr
  apply TO.cal (wn T) rfl Et (eT h1) rfl rfl rfl
  repeat exact sd T
  refine wa_ T (g:=?_)
  apply TO.pop1 (wn T) (eB rfl)
  repeat exact sd T
  refine wa_ T (g:=?_)
  rcases ifs hr with⟨h2,hr⟩|⟨h2,hr⟩
  ·have T:=an h2 T
   refine wC T (g:=?_)
   rcases ifs hr with⟨h3,hr⟩|⟨h3,hr⟩
   ·have T:=an h3 T
    refine wa_ T (g:=?_)
    cases hr
    refine⟨.inr rfl,_,(ry T),?_⟩
    exact wk_ T [] rfl .nil
   ·have T:=an h3 T
    refine wa_ T (g:=?_)
    obtain⟨v13,h18,hr⟩:=bs hr
    refine TX.loopE (step:=cL v1 v2) (x:=0) h18 (fun v5=>⟨.Z::.fptr true [.v (.int .i64 v1),.list 1 (v2.map e_i)] 0::.Z::.v (.int .i64 v5)::.Z::.Z::.Z::.Z::.Z::.Z::.Z::.Z::.Z::.Z::.Z::.Z::.Z::.Z::.Z::.Z::.Z::.Z::.Z::.Z::.Z::.Z::.Z::.Z::.Z::.Z::.Z::.Z::.Z::.Z::.Z::.Z::.Z::.Z::.Z::.Z::.Z::.Z::.Z::.Z::.Z::.Z::.Z::.Z::.Z::.Z::.Z::.Z::.Z::.Z::.Z::[],[]⟩) (fun e=>match e with|(.inl v9)=>(.ret,⟨.Z::.Z::.v (.int .i64 v9)::.Z::.Z::.Z::.Z::.Z::.Z::.Z::.Z::.Z::.Z::.Z::.Z::.Z::.Z::.Z::.Z::.Z::.Z::.Z::.Z::.Z::.Z::.Z::.Z::.Z::.Z::.Z::.Z::.Z::.Z::.Z::.Z::.Z::.Z::.Z::.Z::.Z::.Z::.Z::.Z::.Z::.Z::.Z::.Z::.Z::.Z::.Z::.Z::.Z::.Z::.Z::.Z::[],[]⟩)|(.inr _)=>(.exit 0,⟨.Z::.fptr true [.v (.int .i64 v1),.list 1 (v2.map e_i)] 0::.Z::.Z::.Z::.Z::.Z::.Z::.Z::.Z::.Z::.Z::.Z::.Z::.Z::.Z::.Z::.Z::.Z::.Z::.Z::.Z::.Z::.Z::.Z::.Z::.Z::.Z::.Z::.Z::.Z::.Z::.Z::.Z::.Z::.Z::.Z::.Z::.Z::.Z::.Z::.Z::.Z::.Z::.Z::.Z::.Z::.Z::.Z::.Z::.Z::.Z::.Z::.Z::.Z::[],[]⟩)) ?_ ?_ ?_ ?_
    ·rintro v5 v0 hr
     dsimp only[cL] at hr
     try dsimp only
     refine wC T (g:=?_)
     rcases ifs hr with⟨h11,hr⟩|⟨h11,hr⟩
     ·have T:=an h11 T
      refine wA T (g:=?_)
      obtain⟨v10,h12,hr⟩:=bs hr
      have T:=an (gx e_i h12) T
      refine wA T (g:=?_)
      obtain⟨v11,h13,hr⟩:=bs hr
      apply TD.cal (wn T) rfl Et (eT h13) rfl rfl rfl
      repeat exact sd T
      refine wa_ T (g:=?_)
      apply TD.pop1 (wn T) (eB rfl)
      repeat exact sd T
      refine wa_ T (g:=?_)
      rcases ifs hr with⟨h14,hr⟩|⟨h14,hr⟩
      ·have T:=an h14 T
       refine wa_ T (g:=?_)
       rcases ifs hr with⟨h15,hr⟩|⟨h15,hr⟩
       ·have T:=an h15 T
        refine wA T (g:=?_)
        obtain⟨v12,h16,hr⟩:=bs hr
        have T:=an (gx e_i h16) T
        refine wA T (g:=?_)
        rcases ifs hr with⟨h17,hr⟩|⟨h17,hr⟩
        ·have T:=an h17 T
         refine wa_ T (g:=?_)
         cases hr
         refine⟨rfl,?_⟩
         exact wk_ T [] rfl .nil
        ·have T:=an h17 T
         refine wa_ T (g:=?_)
         cases hr
         refine⟨rfl,?_⟩
         exact wk_ T [] rfl .nil
       ·have T:=an h15 T
        refine wa_ T (g:=?_)
        cases hr
        refine⟨rfl,?_⟩
        exact wk_ T [] rfl .nil
      ·have T:=an h14 T
       refine wa_ T (g:=?_)
       cases hr
       refine⟨rfl,?_⟩
       exact wk_ T [] rfl .nil
     ·have T:=an h11 T
      refine wa_ T (g:=?_)
      cases hr
      refine⟨rfl,?_⟩
      exact wk_ T [] rfl .nil
    ·intro e h;rcases e with _|e<;>cases h
    ·try dsimp only
     rcases v13 with v14|_
     ·try dsimp only at hr
      try dsimp only
      refine wa_ T (g:=?_)
      cases hr
      refine⟨.inr rfl,_,(ry T),?_⟩
      exact wk_ T [] rfl .nil
     ·try dsimp only at hr
      try dsimp only
      refine wC T (g:=?_)
      obtain⟨v15,h19,hr⟩:=bs hr
      have T:=an (gx e_i h19) T
      refine wA T (g:=?_)
      rcases ifs hr with⟨h20,hr⟩|⟨h20,hr⟩
      ·have T:=an h20 T
       refine wa_ T (g:=?_)
       cases hr
       refine⟨.inr rfl,_,(ry T),?_⟩
       exact wk_ T [] rfl .nil
      ·have T:=an h20 T
       refine wa_ T (g:=?_)
       cases hr
       refine⟨.inr rfl,_,(ry T),?_⟩
       exact wk_ T [] rfl .nil
    ·try dsimp only
     exact wk_ T [] rfl .nil
  ·have T:=an h2 T
   refine wa_ T (g:=?_)
   cases hr
   refine⟨.inr rfl,_,(ry T),?_⟩
   exact wk_ T [] rfl .nil
 rfl
end Go.Rex
namespace Go.Rex
open Go.Proofs
open Go Go.Rex Go.RowKit
set_option maxRecDepth 100000
set_option maxHeartbeats 200000
def y2:=an @ag3 <| an @sL <| an @bP <| @Vn
theorem oK{v1:Int}{v2:(List Int)}{v3:Int}(hr:gN v1 v2=some (v3)):Spec (lim Try.prog) 7 [.agg [.v (.int .i64 v1),.list 1 (v2.map e_i)]] ⟨[.v (.int .i64 v3)],[]⟩:=by
 unfold gN at hr
 have T:=an y2 <| @e_i.eq_1
 apply Spec.fn Try.func7 rfl
 focus (simp[Try.f7]<;>exact rfl)
 focus
  refine wb_ T (g:=?_)
  obtain⟨v7,h3,hr⟩:=bs hr
  refine TX.loopE (step:=kA v1) (x:=(1,0)) h3 (fun (v4,v5)=>⟨.Z::.fptr true [.v (.int .i64 v1),.list 1 (v2.map e_i)] 0::.Z::.v (.int .i64 v4)::.v (.int .i64 v5)::.Z::.Z::.Z::.Z::.Z::.Z::.Z::.Z::.Z::.Z::[],[]⟩) (fun v6=>(.exit 0,⟨.Z::.Z::.Z::.v (.int .i64 v6)::.Z::.Z::.Z::.Z::.Z::.Z::.Z::.Z::.Z::.Z::.Z::[],[]⟩)) ?_ ?_ ?_ ?_
  ·rintro⟨v4,v5⟩ v0 hr
   dsimp only[kA] at hr
   try dsimp only
   refine wA T (g:=?_)
   rcases ifs hr with⟨h2,hr⟩|⟨h2,hr⟩
   ·have T:=an h2 T
    refine wa_ T (g:=?_)
    cases hr
    refine⟨rfl,?_⟩
    exact wk_ T [] rfl .nil
   ·have T:=an h2 T
    refine wa_ T (g:=?_)
    cases hr
    refine⟨rfl,?_⟩
    exact wk_ T [] rfl .nil
  ·intro e h;cases h
  ·try dsimp only
   refine wa_ T (g:=?_)
   cases hr
   refine⟨.inr rfl,_,(ry T),?_⟩
   exact wr [] rfl .nil
  ·try dsimp only
   exact wr [] rfl .nil
 rfl
def y3:=an @ag25 <| an @cs25 <| @ok25
theorem vQ{v1:Int}{v2:(List Int)}{v3:Int}{v4:Int}(hr:dZ v1 v2 v3=some (v4)):Spec (lim Try.prog) 23 [.agg [.v (.int .i64 v1),.list 1 (v2.map e_i)],.v (.int .i64 v3)] ⟨[.v (.int .i64 v4)],[]⟩:=by
 unfold dZ at hr
 have T:=an y3 <| @e_i.eq_1
 apply Spec.fn Try.func23 rfl
 focus (simp[Try.f23]<;>exact rfl)
 focus
  refine wB T (g:=?_)
  obtain⟨v5,h1,hr⟩:=bs hr
  apply TO.cal (wn T) rfl aBz (qV h1) rfl rfl rfl
  repeat exact sd T
  refine wa_ T (g:=?_)
  rcases ifs hr with⟨h2,hr⟩|⟨h2,hr⟩
  ·have T:=an h2 T
   refine wa_ T (g:=?_)
   cases hr
   refine⟨.inr rfl,_,(ry T),?_⟩
   exact wk_ T [] rfl .nil
  ·have T:=an h2 T
   refine wA T (g:=?_)
   obtain⟨v6,h3,hr⟩:=bs hr
   apply TO.cal (wn T) rfl Yl (oK h3) rfl rfl rfl
   repeat exact sd T
   refine wa_ T (g:=?_)
   obtain⟨v7,h4,hr⟩:=bs hr
   apply TO.cal (wn T) rfl Et (eT h4) rfl rfl rfl
   repeat exact sd T
   refine wa_ T (g:=?_)
   apply TO.pop1 (wn T) (eB rfl)
   repeat exact sd T
   refine wa_ T (g:=?_)
   rcases ifs hr with⟨h5,hr⟩|⟨h5,hr⟩
   ·have T:=an h5 T
    refine wa_ T (g:=?_)
    cases hr
    refine⟨.inr rfl,_,(ry T),?_⟩
    exact wk_ T [] rfl .nil
   ·have T:=an h5 T
    refine wa_ T (g:=?_)
    cases hr
    refine⟨.inr rfl,_,(ry T),?_⟩
    exact wk_ T [] rfl .nil
 rfl
end Go.Rex
namespace Go.Rex
open Go.Proofs
open Go Go.Rex Go.RowKit
set_option maxRecDepth 100000
set_option maxHeartbeats 1000000
def y4:=an @ag23 <| an @ag3 <| an @by3 <| an @cs3 <| an @sL <| an @zV <| an @ni23 <| an @ok3 <| an @so23 <| an @zc3 <| @bP
theorem Bu{v1:Int}{v2:(List Int)}{v3:Int}{v4:Int}{v5:(List Int)}(hr:nL v1 v2 v3 v4=some (v5)):Spec (lim Try.prog) 99 [.agg [.v (.int .i64 v1),.list 1 (v2.map e_i)],.v (.int .i64 v3),.v (.int .i64 v4)] ⟨[.lsl 0 0 v5.length],[.rows 1 (v5.map e_i)]⟩:=by
 unfold nL at hr
 have T:=an y4 <| @e_i.eq_1
 apply Spec.fn Try.func99 rfl
 focus (simp[Try.f99]<;>exact rfl)
 focus
  refine wb_ T (g:=?_)
  apply TX.vt (α:=Int) e_i 7 1 rfl
  repeat exact sd T
  with_reducible apply TX.here
  refine wa_ T (g:=?_)
  obtain⟨v30,h23,hr⟩:=bs hr
  refine TX.loopE (step:=jY v1 v2 v4) (x:=(v3,([]:List Int),0)) h23 (fun (v6,v7,v8)=>⟨.Z::.v (.int .i64 v6)::.v (.int .i64 v4)::.fptr true [.v (.int .i64 v1),.list 1 (v2.map e_i)] 0::.Z::.Z::.Z::.lsl 0 0 v7.length::.v (.int .i64 v8)::.Z::.Z::.Z::.Z::.Z::.Z::.Z::.Z::.Z::.Z::.Z::.Z::.Z::.Z::.Z::.Z::.Z::.Z::.Z::.Z::.Z::.Z::.Z::.Z::.Z::.Z::.Z::.Z::.Z::.Z::.Z::.Z::.Z::.Z::.Z::.Z::.Z::.Z::.Z::.Z::.Z::.Z::.Z::[],[.rows 1 (v7.map e_i)]⟩) (fun v19=>(.exit 0,⟨.Z::.Z::.Z::.Z::.Z::.Z::.Z::.lsl 0 0 v19.length::.Z::.Z::.Z::.Z::.Z::.Z::.Z::.Z::.Z::.Z::.Z::.Z::.Z::.Z::.Z::.Z::.Z::.Z::.Z::.Z::.Z::.Z::.Z::.Z::.Z::.Z::.Z::.Z::.Z::.Z::.Z::.Z::.Z::.Z::.Z::.Z::.Z::.Z::.Z::.Z::.Z::.Z::.Z::.Z::[],[.rows 1 (v19.map e_i)]⟩)) ?_ ?_ ?_ ?_
  ·rintro⟨v6,v7,v8⟩ v0 hr
   dsimp only[jY] at hr
   try dsimp only
   refine wa_ T (g:=?_)
   rcases ifs hr with⟨h12,hr⟩|⟨h12,hr⟩
   ·have T:=an h12 T
    refine wA T (g:=?_)
    rcases ifs hr with⟨h13,hr⟩|⟨h13,hr⟩
    ·have T:=an h13 T
     refine wa_ T (g:=?_)
     apply TO.bm e_i ([(v6.tmod 2)]:List Int) (wn T) rfl (by simp only[zz,y4,e_i,Nat.reduceAdd,Nat.reduceMul,Nat.reduceLeDiff,Nat.reduceEqDiff,tslice,tparts,h12,h13];exact rfl) rfl
     repeat exact sd T
     refine wa_ T (g:=?_)
     obtain⟨v20,h14,hr⟩:=bs hr
     apply TO.ap (f:=e_i) (xs:=v7) (ys:=([(v6.tmod 2)]:List Int)) (wn T) rfl rfl (by first|rfl|simp only[List.length_set]) rfl rfl so23 ni23 zc3 rfl (by rw[by3];exact h14) (fun _=>⟨rfl,rfl,rfl⟩)
     repeat exact sd T
     refine wa_ T (g:=?_)
     cases hr
     refine⟨rfl,?_⟩
     exact wk_ T [some 0] rfl (.rows .nil rfl rfl)
    ·have T:=an h13 T
     refine wa_ T (g:=?_)
     obtain⟨v28,h21,hr⟩:=bs hr
     refine TX.loopE (step:=kD v2 v7 v8) (x:=(0,0)) h21 (fun (v21,v22)=>⟨.Z::.v (.int .i64 v6)::.v (.int .i64 v4)::.fptr true [.v (.int .i64 v1),.list 1 (v2.map e_i)] 0::.Z::.Z::.Z::.lsl 0 0 v7.length::.v (.int .i64 v8)::.v (.int .i64 v21)::.v (.int .i64 v22)::.Z::.Z::.Z::.Z::.Z::.Z::.Z::.Z::.Z::.Z::.Z::.Z::.Z::.Z::.Z::.Z::.Z::.Z::.Z::.Z::.Z::.Z::.Z::.Z::.Z::.Z::.Z::.Z::.Z::.Z::.Z::.Z::.Z::.Z::.Z::.Z::.Z::.Z::.Z::.Z::.Z::[],[.rows 1 (v7.map e_i)]⟩) (fun v25=>(.exit 2,⟨.Z::.v (.int .i64 v6)::.v (.int .i64 v4)::.fptr true [.v (.int .i64 v1),.list 1 (v2.map e_i)] 0::.Z::.Z::.Z::.lsl 0 0 v7.length::.v (.int .i64 v8)::.v (.int .i64 v25)::.Z::.Z::.Z::.Z::.Z::.Z::.Z::.Z::.Z::.Z::.Z::.Z::.Z::.Z::.Z::.Z::.Z::.Z::.Z::.Z::.Z::.Z::.Z::.Z::.Z::.Z::.Z::.Z::.Z::.Z::.Z::.Z::.Z::.Z::.Z::.Z::.Z::.Z::.Z::.Z::.Z::.Z::[],[.rows 1 (v7.map e_i)]⟩)) ?_ ?_ ?_ ?_
     ·rintro⟨v21,v22⟩ v0 hr
      dsimp only[kD] at hr
      try dsimp only
      refine wC T (g:=?_)
      rcases ifs hr with⟨h18,hr⟩|⟨h18,hr⟩
      ·have T:=an h18 T
       refine wA T (g:=?_)
       obtain⟨v26,h19,hr⟩:=bs hr
       have T:=an (gx e_i h19) T
       refine wA T (g:=?_)
       obtain⟨v27,h20,hr⟩:=bs hr
       have T:=an (gx e_i h20) T
       refine wA T (g:=?_)
       cases hr
       refine⟨rfl,?_⟩
       exact wk_ T [some 0] rfl (.rows .nil rfl rfl)
      ·have T:=an h18 T
       refine wa_ T (g:=?_)
       cases hr
       refine⟨rfl,?_⟩
       exact wk_ T [some 0] rfl (.rows .nil rfl rfl)
     ·intro e h;cases h
     ·try dsimp only
      refine wa_ T (g:=?_)
      apply TO.bm e_i ([(v28.tmod 2)]:List Int) (wn T) rfl (by simp only[zz,y4,e_i,Nat.reduceAdd,Nat.reduceMul,Nat.reduceLeDiff,Nat.reduceEqDiff,tslice,tparts,h12,h13];exact rfl) rfl
      repeat exact sd T
      refine wa_ T (g:=?_)
      obtain⟨v29,h22,hr⟩:=bs hr
      apply TO.ap (f:=e_i) (xs:=v7) (ys:=([(v28.tmod 2)]:List Int)) (wn T) rfl rfl (by first|rfl|simp only[List.length_set]) rfl rfl so23 ni23 zc3 rfl (by rw[by3];exact h22) (fun _=>⟨rfl,rfl,rfl⟩)
      repeat exact sd T
      refine wa_ T (g:=?_)
      cases hr
      refine⟨rfl,?_⟩
      exact wk_ T [some 0] rfl (.rows .nil rfl rfl)
     ·try dsimp only
      exact wk_ T [some 0] rfl (.rows .nil rfl rfl)
   ·have T:=an h12 T
    refine wa_ T (g:=?_)
    cases hr
    refine⟨rfl,?_⟩
    exact wk_ T [some 0] rfl (.rows .nil rfl rfl)
  ·intro e h;cases h
  ·try dsimp only
   refine wa_ T (g:=?_)
   cases hr
   refine⟨.inr rfl,_,(ry T),?_⟩
   exact wr [some 0] rfl (.rows .nil rfl rfl)
  ·try dsimp only
   exact wr [some 0] rfl (.rows .nil rfl rfl)
 rfl
end Go.Rex
namespace Go.Rex
open Go.Proofs
open Go Go.Rex Go.RowKit
set_option maxRecDepth 100000
set_option maxHeartbeats 200000
def y5:=an @ag25 <| an @ag3 <| an @cs25 <| an @cs3 <| an @sL <| an @ok25 <| an @ok3 <| an @so23 <| @Vv
theorem sZ{v1:Int}{v2:(List Int)}{v3:Int}{v4:Int}(hr:nC v1 v2 v3=some (v4)):Spec (lim Try.prog) 86 [.agg [.v (.int .i64 v1),.list 1 (v2.map e_i)],.v (.int .i64 v3)] ⟨[.v (.int .i64 v4)],[]⟩:=by
 unfold nC at hr
 have T:=an y5 <| @e_i.eq_1
 apply Spec.fn Try.func86 rfl
 focus (simp[Try.f86]<;>exact rfl)
 focus
  refine wB T (g:=?_)
  obtain⟨v5,h1,hr⟩:=bs hr
  apply TO.cal (wn T) rfl aAQ (Bu h1) rfl rfl rfl
  repeat exact sd T
  refine wA T (g:=?_)
  obtain⟨v11,h6,hr⟩:=bs hr
  refine TX.loopE (step:=jZ v5) (x:=(0,v1)) h6 (fun (v6,v7)=>⟨.Z::.Z::.Z::.Z::.Z::.lsl 0 0 v5.length::.v (.int .i64 v6)::.v (.int .i64 v7)::.Z::.Z::.Z::.Z::.Z::.Z::.Z::.Z::.Z::.Z::.Z::.Z::.Z::.Z::.Z::.Z::.Z::.Z::.Z::.Z::[],[.rows 1 (v5.map e_i)]⟩) (fun v9=>(.exit 0,⟨.Z::.Z::.Z::.Z::.Z::.Z::.v (.int .i64 v9)::.Z::.Z::.Z::.Z::.Z::.Z::.Z::.Z::.Z::.Z::.Z::.Z::.Z::.Z::.Z::.Z::.Z::.Z::.Z::.Z::.Z::[],[]⟩)) ?_ ?_ ?_ ?_
  ·rintro⟨v6,v7⟩ v0 hr
   dsimp only[jZ] at hr
   try dsimp only
   refine wa_ T (g:=?_)
   rcases ifs hr with⟨h4,hr⟩|⟨h4,hr⟩
   ·have T:=an h4 T
    refine wa_ T (g:=?_)
    obtain⟨v10,h5,hr⟩:=bs hr
    have T:=an (gx e_i h5) T
    refine wA T (g:=?_)
    cases hr
    refine⟨rfl,?_⟩
    exact wk_ T [some 0] rfl (.rows .nil rfl rfl)
   ·have T:=an h4 T
    refine wa_ T (g:=?_)
    cases hr
    refine⟨rfl,?_⟩
    exact wk_ T [] rfl .nil
  ·intro e h;cases h
  ·try dsimp only
   refine wa_ T (g:=?_)
   cases hr
   refine⟨.inr rfl,_,(ry T),?_⟩
   exact wr [] rfl .nil
  ·try dsimp only
   exact wr [some 0] rfl (.rows .nil rfl rfl)
 rfl
def y6:=an @ag25 <| an @cs25 <| an @ok25 <| @mX
theorem yW{v1:Int}{v2:(List Int)}{v3:Int}{v4:Int}(hr:mS v1 v2 v3=some (v4)):Spec (lim Try.prog) 60 [.agg [.v (.int .i64 v1),.list 1 (v2.map e_i)],.v (.int .i64 v3)] ⟨[.v (.int .i64 v4)],[]⟩:=by
 unfold mS at hr
 have T:=an y6 <| @e_i.eq_1
 apply Spec.fn Try.func60 rfl
 focus (simp[Try.f60]<;>exact rfl)
 focus
  refine wB T (g:=?_)
  obtain⟨v5,h1,hr⟩:=bs hr
  apply TO.cal (wn T) rfl Uz (sZ h1) rfl rfl rfl
  repeat exact sd T
  refine wa_ T (g:=?_)
  obtain⟨v11,h6,hr⟩:=bs hr
  refine TX.loopE (step:=iB v1 v2 v3) (x:=(1,v5)) h6 (fun (v6,v7)=>⟨.Z::.v (.int .i64 v3)::.fptr true [.v (.int .i64 v1),.list 1 (v2.map e_i)] 0::.Z::.Z::.v (.int .i64 v6)::.v (.int .i64 v7)::.Z::.Z::.Z::.Z::.Z::.Z::.Z::.Z::.Z::.Z::.Z::.Z::[],[]⟩) (fun v9=>(.exit 0,⟨.Z::.Z::.Z::.Z::.Z::.v (.int .i64 v9)::.Z::.Z::.Z::.Z::.Z::.Z::.Z::.Z::.Z::.Z::.Z::.Z::.Z::[],[]⟩)) ?_ ?_ ?_ ?_
  ·rintro⟨v6,v7⟩ v0 hr
   dsimp only[iB] at hr
   try dsimp only
   refine wa_ T (g:=?_)
   rcases ifs hr with⟨h4,hr⟩|⟨h4,hr⟩
   ·have T:=an h4 T
    refine wA T (g:=?_)
    obtain⟨v10,h5,hr⟩:=bs hr
    apply TO.cal (wn T) rfl Uz (sZ h5) rfl rfl rfl
    repeat exact sd T
    refine wa_ T (g:=?_)
    cases hr
    refine⟨rfl,?_⟩
    exact wk_ T [] rfl .nil
   ·have T:=an h4 T
    refine wa_ T (g:=?_)
    cases hr
    refine⟨rfl,?_⟩
    exact wk_ T [] rfl .nil
  ·intro e h;cases h
  ·try dsimp only
   refine wa_ T (g:=?_)
   cases hr
   refine⟨.inr rfl,_,(ry T),?_⟩
   exact wr [] rfl .nil
  ·try dsimp only
   exact wr [] rfl .nil
 rfl
def y7:=an @ag25 <| an @cs25 <| @ok25
theorem uP{v1:Int}{v2:(List Int)}{v3:Bool}(hr:iA v1 v2=some (v3)):Spec (lim Try.prog) 24 [.agg [.v (.int .i64 v1),.list 1 (v2.map e_i)]] ⟨[.v (.bool v3)],[]⟩:=by
 unfold iA at hr
 have T:=an y7 <| @e_i.eq_1
 apply Spec.fn Try.func24 rfl
 focus (simp[Try.f24]<;>exact rfl)
 focus
  refine wB T (g:=?_)
  obtain⟨v4,h1,hr⟩:=bs hr
  apply TD.cal (wn T) rfl aBa (yW h1) rfl rfl rfl
  repeat exact sd T
  refine wA T (g:=?_)
  obtain⟨v5,h2,hr⟩:=bs hr
  apply TD.cal (wn T) rfl Yl (oK h2) rfl rfl rfl
  repeat exact sd T
  refine wa_ T (g:=?_)
  cases hr
  refine⟨.inr rfl,_,(ry T),?_⟩
  exact wr [] rfl .nil
 rfl
def y8:=an @ag23 <| an @ag25 <| an @ag3 <| an @cs25 <| an @sL <| an @zV <| an @Xh <| an @Wo <| an @ok25 <| @so23
theorem tH{v1:Int}{v2:(List Int)}{v3:Int}{v4:Bool}(hr:gF v1 v2 v3=some (v4)):Spec (lim Try.prog) 6 [.agg [.v (.int .i64 v1),.list 1 (v2.map e_i),.v (.int .i64 v3)]] ⟨[.v (.bool v4)],[]⟩:=by
 unfold gF at hr
 have T:=an y8 <| @e_i.eq_1
 apply Spec.fn Try.func6 rfl
 focus (simp[Try.f6]<;>exact rfl)
 focus
  refine wD T (g:=?_)
  rcases ifs hr with⟨h1,hr⟩|⟨h1,hr⟩
  ·have T:=an h1 T
   refine wA T (g:=?_)
   obtain⟨v5,h2,hr⟩:=bs hr
   apply TO.cal (wn T) rfl aAM (vQ h2) rfl rfl rfl
   repeat exact sd T
   refine wa_ T (g:=?_)
   rcases ifs hr with⟨h3,hr⟩|⟨h3,hr⟩
   ·have T:=an h3 T
    refine wA T (g:=?_)
    rcases ifs hr with⟨h4,hr⟩|⟨h4,hr⟩
    ·have T:=an h4 T
     refine wA T (g:=?_)
     obtain⟨v6,h5,hr⟩:=bs hr
     apply TO.cal (wn T) rfl aAP (uP h5) rfl rfl rfl
     repeat exact sd T
     refine wa_ T (g:=?_)
     cases hr
     refine⟨.inr rfl,_,(ry T),?_⟩
     exact wk_ T [] rfl .nil
    ·have T:=an h4 T
     refine wa_ T (g:=?_)
     cases hr
     refine⟨.inr rfl,_,(ry T),?_⟩
     exact wk_ T [] rfl .nil
   ·have T:=an h3 T
    refine wa_ T (g:=?_)
    cases hr
    refine⟨.inr rfl,_,(ry T),?_⟩
    exact wk_ T [] rfl .nil
  ·have T:=an h1 T
   refine wa_ T (g:=?_)
   cases hr
   refine⟨.inr rfl,_,(ry T),?_⟩
   exact wk_ T [] rfl .nil
 rfl
def y9:=an @un3 <| @un53
theorem zB{v1:Int}{v2:Int}{v3:Nat}{v4:Nat}(hr:iF v1 v2=some (v3,v4)):Spec (lim Try.prog) 25 [.v (.int .i64 v1),.v (.int .i64 v2)] ⟨[.v (.complex .f32 v3 v4)],[]⟩:=by
 unfold iF at hr
 have T:=y9
 apply Spec.fn Try.func25 rfl
 focus (simp[Try.f25]<;>exact rfl)
 focus
  refine wa_ T (g:=?_)
  apply TO.pop1 (wn T) (Rp rfl rfl)
  repeat exact sd T
  refine wa_ T (g:=?_)
  apply TO.pop1 (wn T) (Hq rfl rfl)
  repeat exact sd T
  refine wa_ T (g:=?_)
  apply TO.pop1 (wn T) (nT un3 un53 rfl)
  repeat exact sd T
  refine wa_ T (g:=?_)
  apply TO.pop1 (wn T) (Rp rfl rfl)
  repeat exact sd T
  refine wa_ T (g:=?_)
  apply TO.pop1 (wn T) (Hq rfl rfl)
  repeat exact sd T
  refine wa_ T (g:=?_)
  apply TO.pop1 (wn T) (nT un3 un53 rfl)
  repeat exact sd T
  refine wa_ T (g:=?_)
  apply TO.pop1 (wn T) (Ap rfl rfl)
  repeat exact sd T
  refine wa_ T (g:=?_)
  cases hr
  refine⟨.inr rfl,_,(ry T),?_⟩
  exact wr [] rfl .nil
 rfl
end Go.Rex
namespace Go.Rex
open Go.Proofs
open Go Go.Rex Go.RowKit
set_option maxRecDepth 100000
set_option maxHeartbeats 1000000
def y10:=an @ag3 <| an @ar48 <| an @by60 <| an @cs3 <| an @cs48 <| an @cs60 <| an @ni32 <| an @ok3 <| an @ok48 <| an @so22 <| an @so32 <| an @so48 <| an @zc60 <| @bP
theorem tB{v1:(List (Int×Int))}{v2:Int}{v3:(List (Nat×Nat))}{v4:Bool}(hr:jB v1 v2=some (v3,v4)):Spec (lim Try.prog) 9 [.list 2 (v1.map e_ii),.v (.int .i64 v2)] ⟨[.tuple [.lsl 0 0 v3.length,.v (.bool v4)]],[.rows 1 (v3.map e_c)]⟩:=by
 unfold jB at hr
 have T:=an y10 <| an @e_c.eq_1 <| @e_ii.eq_1
 apply Spec.fn Try.func9 rfl
 focus (simp[Try.f9]<;>exact rfl)
 focus
  refine wa_ T (g:=?_)
  apply TX.vt (α:=(Nat×Nat)) e_c 6 1 rfl
  repeat exact sd T
  with_reducible apply TX.here
  refine wa_ T (g:=?_)
  obtain⟨v22,h17,hr⟩:=bs hr
  refine TX.loopE (step:=eD v1 v2) (x:=(([]:List (Nat×Nat)),0)) h17 (fun (v5,v6)=>⟨.list 2 (v1.map e_ii)::.v (.int .i64 v2)::.Z::.Z::.Z::.Z::.lsl 0 0 v5.length::.v (.int .i64 v6)::.Z::.Z::.Z::.Z::.Z::.Z::.Z::.Z::.Z::.Z::.Z::.Z::.Z::.Z::.Z::.Z::.Z::.Z::.Z::.Z::.Z::.Z::.Z::.Z::.Z::.Z::.Z::.Z::.Z::.Z::.Z::.Z::.Z::.Z::.Z::.Z::.Z::.Z::.Z::.Z::.Z::.Z::.Z::[],[.rows 1 (v5.map e_c)]⟩) (fun e=>match e with|(.inl _)=>(.ret,⟨.Z::.Z::.Z::.Z::.v (.slice none 0 0)::.v (.bool false)::.Z::.Z::.Z::.Z::.Z::.Z::.Z::.Z::.Z::.Z::.Z::.Z::.Z::.Z::.Z::.Z::.Z::.Z::.Z::.Z::.Z::.Z::.Z::.Z::.Z::.Z::.Z::.Z::.Z::.Z::.Z::.Z::.Z::.Z::.Z::.Z::.Z::.Z::.Z::.Z::.Z::.Z::.Z::.Z::.Z::[],[]⟩)|(.inr v14)=>(.exit 0,⟨.Z::.Z::.Z::.Z::.Z::.Z::.lsl 0 0 v14.length::.Z::.Z::.Z::.Z::.Z::.Z::.Z::.Z::.Z::.Z::.Z::.Z::.Z::.Z::.Z::.Z::.Z::.Z::.Z::.Z::.Z::.Z::.Z::.Z::.Z::.Z::.Z::.Z::.Z::.Z::.Z::.Z::.Z::.Z::.Z::.Z::.Z::.Z::.Z::.Z::.Z::.Z::.Z::.Z::[],[.rows 1 (v14.map e_c)]⟩)) ?_ ?_ ?_ ?_
  ·rintro⟨v5,v6⟩ v0 hr
   dsimp only[eD] at hr
   try dsimp only
   refine wc_ T (g:=?_)
   rcases ifs hr with⟨h9,hr⟩|⟨h9,hr⟩
   ·have T:=an h9 T
    refine wa_ T (g:=?_)
    obtain⟨⟨v15,v16⟩,h10,hr⟩:=bs hr
    try dsimp only at hr
    have h10m:=jU (f:=e_ii) h10
    have h10l:=jQ h10
    try simp only[List.length_set] at h10l
    have h10a:=kL h10
    repeat (first|(with_reducible first|refine mv ?_|refine m12 rfl ?_|refine TO.nil ?_)|((with_reducible first|apply TO.ia|apply TO.ia|apply TO.ld|apply TO.mv);(repeat (focus (show _=_;first|exact k1 rfl|exact k2 rfl|(simp only[zz,y10,e_c,e_ii,Nat.reduceAdd,Nat.reduceMul,Nat.reduceLeDiff,Nat.reduceEqDiff,aB,Nat.zero_add,z5,Int.reduceToNat,Int.reduceLE,Int.reduceLT,Int.cast_ofNat_Int,tload,bD,bC,List.getElem?_map,h9,h10m,h10l,h10a]<;>exact rfl)|exact rfl)));(with_reducible apply TO.here))|((with_reducible apply TX.region);(focus (simp only[zl]<;>exact rfl));(focus rfl);(try dsimp only))|fail)
    have T:=an h10m T
    have T:=an h10l T
    have T:=an h10a T
    apply TO.pop1 (wn T) (Cd rfl)
    repeat exact sd T
    refine wa_ T (g:=?_)
    obtain⟨v17,h11,hr⟩:=bs hr
    apply TO.cal (wn T) rfl Et (eT h11) rfl rfl rfl
    repeat exact sd T
    refine wa_ T (g:=?_)
    apply TO.pop1 (wn T) (eB rfl)
    repeat exact sd T
    refine wa_ T (g:=?_)
    rcases ifs hr with⟨h12,hr⟩|⟨h12,hr⟩
    ·repeat (first|(with_reducible first|refine mv ?_|refine m12 rfl ?_|refine TO.nil ?_)|((with_reducible first|apply TO.mv|apply TO.ia|apply TO.ia|apply TO.ld);(repeat (focus (show _=_;first|exact k1 rfl|exact k2 rfl|(simp only[zz,y10,e_c,e_ii,Nat.reduceAdd,Nat.reduceMul,Nat.reduceLeDiff,Nat.reduceEqDiff,aB,Nat.zero_add,z5,Int.reduceToNat,Int.reduceLE,Int.reduceLT,Int.cast_ofNat_Int,tload,bD,bC,List.getElem?_map,h9,h10m,h10l,h10a,h12]<;>exact rfl)|exact rfl)));(with_reducible apply TO.here))|((with_reducible apply TX.region);(focus (simp only[zl]<;>exact rfl));(focus rfl);(try dsimp only))|fail)
     have T:=an h12 T
     apply TO.pop1 (wn T) (Cd rfl)
     repeat exact sd T
     refine wa_ T (g:=?_)
     obtain⟨v18,h13,hr⟩:=bs hr
     apply TO.cal (wn T) rfl Et (eT h13) rfl rfl rfl
     repeat exact sd T
     refine wa_ T (g:=?_)
     apply TO.pop1 (wn T) (eB rfl)
     repeat exact sd T
     refine wa_ T (g:=?_)
     rcases ifs hr with⟨h14,hr⟩|⟨h14,hr⟩
     ·repeat (first|(with_reducible first|refine mv ?_|refine m12 rfl ?_|refine TD.nil ?_)|((with_reducible first|apply TD.mv|apply TD.ia|apply TD.ia|apply TD.ld );(repeat (focus (show _=_;first|exact k1 rfl|exact k2 rfl|(simp only[zz,y10,e_c,e_ii,Nat.reduceAdd,Nat.reduceMul,Nat.reduceLeDiff,Nat.reduceEqDiff,aB,Nat.zero_add,z5,Int.reduceToNat,Int.reduceLE,Int.reduceLT,Int.cast_ofNat_Int,tload,bD,bC,List.getElem?_map,h9,h10m,h10l,h10a,h12,h14]<;>exact rfl)|exact rfl)));(with_reducible refine TD.here ?_))|((with_reducible apply TX.drawn);(focus decide +kernel);(focus (simp only[zl]<;>exact rfl));(focus exact rfl);(try dsimp only))|((with_reducible apply TX.cond_true);(focus rfl);(focus (first|rfl|(simp only[z1,zn,h9,h10m,h10l,h10a,h12,h14];done))))|((with_reducible apply TX.cond_false);(focus rfl);(focus (first|rfl|(simp only[z1,zn,h9,h10m,h10l,h10a,h12,h14];done))))|fail)
      obtain⟨⟨v19,v20⟩,h15,hr⟩:=bs hr
      try dsimp only at hr
      have T:=an h14 T
      apply TD.cal (wn T) rfl aAw (zB h15) rfl rfl rfl
      repeat exact sd T
      refine wa_ T (g:=?_)
      apply TD.bm e_c ([(v19,v20)]:List (Nat×Nat)) (wn T) rfl (by simp only[zz,y10,e_c,e_ii,Nat.reduceAdd,Nat.reduceMul,Nat.reduceLeDiff,Nat.reduceEqDiff,tslice,tparts,h9,h10m,h10l,h10a,h12,h14];exact rfl) rfl
      repeat exact sd T
      refine wa_ T (g:=?_)
      obtain⟨v21,h16,hr⟩:=bs hr
      apply TD.ap (f:=e_c) (xs:=v5) (ys:=([(v19,v20)]:List (Nat×Nat))) (wn T) rfl rfl (by first|rfl|simp only[List.length_set]) rfl rfl so32 ni32 zc60 rfl (by rw[by60];exact h16) (fun _=>⟨rfl,rfl,rfl⟩) rfl
      repeat exact sd T
      refine wa_ T (g:=?_)
      cases hr
      refine⟨rfl,?_⟩
      exact wk_ T [some 0] rfl (.rows .nil rfl rfl)
     ·have T:=an h14 T
      refine wa_ T (g:=?_)
      cases hr
      refine⟨rfl,?_⟩
      exact wk_ T [] rfl .nil
    ·have T:=an h12 T
     refine wa_ T (g:=?_)
     cases hr
     refine⟨rfl,?_⟩
     exact wk_ T [] rfl .nil
   ·have T:=an h9 T
    refine wa_ T (g:=?_)
    cases hr
    refine⟨rfl,?_⟩
    exact wk_ T [some 0] rfl (.rows .nil rfl rfl)
  ·intro e h;rcases e with _|e<;>cases h
  ·try dsimp only
   rcases v22 with _|v23
   ·try dsimp only at hr
    try dsimp only
    refine wa_ T (g:=?_)
    cases hr
    refine⟨.inr rfl,_,(ry T),?_⟩
    exact wr [none] rfl (.virt .nil)
   ·try dsimp only at hr
    try dsimp only
    refine wa_ T (g:=?_)
    cases hr
    refine⟨.inr rfl,_,(ry T),?_⟩
    exact wr [some 0] rfl (.rows .nil rfl rfl)
  ·try dsimp only
   exact wr [some 0] rfl (.rows .nil rfl rfl)
 rfl
end Go.Rex
namespace Go.Rex
open Go.Proofs
open Go Go.Rex Go.RowKit
set_option maxRecDepth 100000
set_option maxHeartbeats 200000
theorem aF{v1:Bool}{v2:Int}{v3:Bool}{v4:Int}(hr:aC v1 v2=some (v3,v4)):Spec (lim Try.prog) 36 [.v (.bool v1),.v (.int .i64 v2)] ⟨[.func 70 [] [.fptr true [.v (.bool v3)] 0,.fptr true [.v (.int .i64 v4)] 0]],[]⟩:=by
 unfold aC at hr
 have T:=trivial
 apply Spec.fn Try.func36 rfl
 focus (simp[Try.f36]<;>exact rfl)
 focus
  refine wb_ T (g:=?_)
  cases hr
  refine⟨.inr rfl,_,(ry T),?_⟩
  exact wr [] rfl .nil
 rfl
theorem iJ{v1:Int}{v2:Int}{v3:Int}{v4:Bool}{v5:Int}(hr:dW v1 v2 v3=some (v4,v5)):Spec (lim Try.prog) 27 [.v (.int .i64 v1),.v (.int .i64 v2),.v (.int .i64 v3)] ⟨[.func 70 [] [.fptr true [.v (.bool v4)] 0,.fptr true [.v (.int .i64 v5)] 0]],[]⟩:=by
 unfold dW at hr
 have T:=trivial
 apply Spec.fn Try.func27 rfl
 focus (simp[Try.f27]<;>exact rfl)
 focus
  refine wa_ T (g:=?_)
  rcases ifs hr with⟨h1,hr⟩|⟨h1,hr⟩
  ·have T:=an h1 T
   refine wa_ T (g:=?_)
   obtain⟨⟨v6,v7⟩,h2,hr⟩:=bs hr
   try dsimp only at hr
   apply TO.cal (wn T) rfl iX (aF h2) rfl rfl rfl
   repeat exact sd T
   refine wa_ T (g:=?_)
   cases hr
   refine⟨.inr rfl,_,(ry T),?_⟩
   exact wk_ T [] rfl .nil
  ·have T:=an h1 T
   refine wa_ T (g:=?_)
   obtain⟨⟨v8,v9⟩,h3,hr⟩:=bs hr
   try dsimp only at hr
   apply TO.cal (wn T) rfl iX (aF h3) rfl rfl rfl
   repeat exact sd T
   refine wa_ T (g:=?_)
   cases hr
   refine⟨.inr rfl,_,(ry T),?_⟩
   exact wk_ T [] rfl .nil
 rfl
def y11:=an @ag37 <| @ag4
theorem aD{v1:Bool}{v2:Int}{v3:Int}(hr:aA v1 v2=some (v3)):Spec (lim Try.prog) 70 [.fptr true [.v (.bool v1)] 0,.fptr true [.v (.int .i64 v2)] 0] ⟨[.v (.int .i64 v3)],[]⟩:=by
 unfold aA at hr
 have T:=y11
 apply Spec.fn Try.func70 rfl
 focus (simp[Try.f70]<;>exact rfl)
 focus
  refine wA T (g:=?_)
  rcases ifs hr with⟨h1,hr⟩|⟨h1,hr⟩
  ·have T:=an h1 T
   refine wA T (g:=?_)
   cases hr
   refine⟨.inr rfl,_,(ry T),?_⟩
   exact wk_ T [] rfl .nil
  ·have T:=an h1 T
   refine wa_ T (g:=?_)
   cases hr
   refine⟨.inr rfl,_,(ry T),?_⟩
   exact wk_ T [] rfl .nil
 rfl
def y12:=an @ag64 <| an @cs64 <| an @ok64 <| an @so99 <| an @bP <| @mX
theorem aZ{v1:Bool}{v2:Int}{v3:Bool}{v4:Int}{v5:Int}(hr:aL v1 v2 v3 v4=some (v5)):Spec (lim Try.prog) 26 [.list 1 [[.func 70 [] [.fptr true [.v (.bool v1)] 0,.fptr true [.v (.int .i64 v2)] 0]],[.func 70 [] [.fptr true [.v (.bool v3)] 0,.fptr true [.v (.int .i64 v4)] 0]]]] ⟨[.v (.int .i64 v5)],[]⟩:=by
 unfold aL at hr
 have T:=y12
 apply Spec.fn Try.func26 rfl
 focus (simp[Try.f26]<;>exact rfl)
 focus
  refine wc_ T (g:=?_)
  refine TX.unroll ?_
  repeat (first|(with_reducible first|refine mv ?_|refine m12 rfl ?_|refine TO.nil ?_)|((with_reducible first|apply TO.bin|apply TO.ia|apply TO.ld|apply TO.asg|apply TO.mv);(repeat (focus (show _=_;first|exact k1 rfl|exact k2 rfl|(simp only[zz,y12,Nat.reduceAdd,Nat.reduceMul,Nat.reduceLeDiff,Nat.reduceEqDiff,aB,z5,Int.reduceToNat,Int.reduceLE,Int.reduceLT,Int.cast_ofNat_Int,tload,bD,bC,List.getElem?_map]<;>exact rfl)|exact rfl)));(with_reducible apply TO.here))|((with_reducible apply TX.region);(focus (simp only[zl]<;>exact rfl));(focus rfl);(try dsimp only))|((with_reducible apply TX.cond_true);(focus rfl);(focus (first|rfl|(simp only[z1,zn];done))))|((with_reducible apply TX.cond_false);(focus rfl);(focus (first|rfl|(simp only[z1,zn];done))))|fail)
  obtain⟨v6,h1,hr⟩:=bs hr
  apply TO.cal (wn T) rfl nD (aD h1) rfl rfl rfl
  repeat exact sd T
  refine wa_ T (g:=?_)
  rcases ifs hr with⟨h2,hr⟩|⟨h2,hr⟩
  ·have T:=an h2 T
   refine wa_ T (g:=?_)
   cases hr
   refine⟨.inr rfl,_,(ry T),?_⟩
   exact wk_ T [] rfl .nil
  ·have T:=an h2 T
   refine wa_ T (g:=?_)
   refine TX.unroll ?_
   repeat (first|(with_reducible first|refine mv ?_|refine m12 rfl ?_|refine TO.nil ?_)|((with_reducible first|apply TO.bin|apply TO.ia|apply TO.ld|apply TO.asg|apply TO.mv);(repeat (focus (show _=_;first|exact k1 rfl|exact k2 rfl|(simp only[zz,y12,Nat.reduceAdd,Nat.reduceMul,Nat.reduceLeDiff,Nat.reduceEqDiff,aB,z5,Int.reduceToNat,Int.reduceLE,Int.reduceLT,Int.cast_ofNat_Int,tload,bD,bC,List.getElem?_map,h2]<;>exact rfl)|exact rfl)));(with_reducible apply TO.here))|((with_reducible apply TX.region);(focus (simp only[zl]<;>exact rfl));(focus rfl);(try dsimp only))|((with_reducible apply TX.cond_true);(focus rfl);(focus (first|rfl|(simp only[z1,zn,h2];done))))|((with_reducible apply TX.cond_false);(focus rfl);(focus (first|rfl|(simp only[z1,zn,h2];done))))|fail)
   obtain⟨v7,h3,hr⟩:=bs hr
   apply TO.cal (wn T) rfl nD (aD h3) rfl rfl rfl
   repeat exact sd T
   refine wa_ T (g:=?_)
   rcases ifs hr with⟨h4,hr⟩|⟨h4,hr⟩
   ·have T:=an h4 T
    refine wa_ T (g:=?_)
    cases hr
    refine⟨.inr rfl,_,(ry T),?_⟩
    exact wk_ T [] rfl .nil
   ·have T:=an h4 T
    refine wa_ T (g:=?_)
    refine TX.unroll ?_
    refine wa_ T (g:=?_)
    cases hr
    refine⟨.inr rfl,_,(ry T),?_⟩
    exact wk_ T [] rfl .nil
 rfl
def y13:=an @ag60 <| an @ar95 <| an @by60 <| an @cs60 <| an @cs64 <| an @cs95 <| an @ni32 <| an @ok60 <| an @ok95 <| an @so32 <| an @so95 <| an @so99 <| an @st95 <| an @zc60 <| an @zc64 <| an @zc95 <| @bP
theorem zX{v1:Int}{v2:Int}{v3:(List (Nat×Nat))}{v4:Int}(hr:mB v1 v2=some (v3,v4)):Spec (lim Try.prog) 18 [.v (.int .i64 v1),.v (.int .i64 v2)] ⟨[.tuple [.lsl 0 0 v3.length,.v (.int .i64 v4)]],[.rows 1 (v3.map e_c)]⟩:=by
 unfold mB at hr
 have T:=an y13 <| @e_c.eq_1
 apply Spec.fn Try.func18 rfl
 focus (simp[Try.f18]<;>exact rfl)
 focus
  refine wa_ T (g:=?_)
  obtain⟨⟨v5,v6⟩,h1,hr⟩:=bs hr
  try dsimp only at hr
  apply TO.cal (wn T) rfl Ee (iJ h1) rfl rfl rfl
  repeat exact sd T
  refine wa_ T (g:=?_)
  obtain⟨⟨v7,v8⟩,h2,hr⟩:=bs hr
  try dsimp only at hr
  apply TO.cal (wn T) rfl Ee (iJ h2) rfl rfl rfl
  repeat exact sd T
  refine we_ T (g:=?_)
  obtain⟨v9,h3,hr⟩:=bs hr
  apply TO.cal (wn T) rfl nJ (aZ h3) rfl rfl rfl
  repeat exact sd T
  refine wa_ T (g:=?_)
  rcases ifs hr with⟨h4,hr⟩|⟨h4,hr⟩
  ·have T:=an h4 T
   refine wa_ T (g:=?_)
   cases hr
   refine⟨.inr rfl,_,(ry T),?_⟩
   exact wk_ T [none] rfl (.virt .nil)
  ·have T:=an h4 T
   refine wa_ T (g:=?_)
   apply TX.vt (α:=(Nat×Nat)) e_c 8 1 rfl
   repeat exact sd T
   with_reducible apply TX.here
   refine wa_ T (g:=?_)
   obtain⟨v20,h13,hr⟩:=bs hr
   refine TX.loopE (step:=fD v1 v2) (x:=(([]:List (Nat×Nat)),0,0)) h13 (fun (v10,v11,v12)=>⟨.Z::.v (.int .i64 v2)::.Z::.Z::.Z::.Z::.Z::.lptr 0 0 0::.lsl 1 0 v10.length::.v (.int .i64 v11)::.Z::.Z::.Z::.Z::.Z::.Z::.Z::.Z::.Z::.Z::.Z::.v (.int .i64 v1)::.v (.int .i64 v12)::.Z::.Z::.Z::.Z::.Z::.Z::.Z::.Z::.Z::.Z::.Z::.Z::.Z::.Z::.Z::.Z::[],[.var [.v (.complex .f32 1065353216 0),.v (.complex .f32 0 1065353216),.v (.complex .f32 3212836864 0),.v (.complex .f32 0 3212836864)],.rows 1 (v10.map e_c)]⟩) (fun v16=>(.exit 0,⟨.Z::.Z::.Z::.Z::.Z::.Z::.Z::.Z::.lsl 0 0 v16.length::.Z::.Z::.Z::.Z::.Z::.Z::.Z::.Z::.Z::.Z::.Z::.Z::.Z::.Z::.Z::.Z::.Z::.Z::.Z::.Z::.Z::.Z::.Z::.Z::.Z::.Z::.Z::.Z::.Z::.Z::[],[.rows 1 (v16.map e_c)]⟩)) ?_ ?_ ?_ ?_
   ·rintro⟨v10,v11,v12⟩ v0 hr
    dsimp only[fD] at hr
    try dsimp only
    refine wa_ T (g:=?_)
    rcases ifs hr with⟨h9,hr⟩|⟨h9,hr⟩
    ·have T:=an h9 T
     refine wa_ T (g:=?_)
     by_cases h10:v2=0
     ·rw[if_pos h10] at hr
      cases hr
     ·rw[if_neg h10] at hr
      have T:=an h10 T
      refine wa_ T (g:=?_)
      obtain⟨⟨v17,v18⟩,h11,hr⟩:=bs hr
      try dsimp only at hr
      have h11l:=jQ h11
      refine wa_ T (g:=?_)
      have T:=an h11l T
      apply TO.pop1 (wn T) (iaA (xs:=([(1065353216,0),(0,1065353216),(3212836864,0),(0,3212836864)]:List (Nat×Nat))) h11 rfl rfl so95 ar95 rfl ok60 cs60)
      repeat exact sd T
      refine wa_ T (g:=?_)
      apply TO.ld (wn T) rfl (aBH (f:=e_c) (xs:=([(1065353216,0),(0,1065353216),(3212836864,0),(0,3212836864)]:List (Nat×Nat))) h11 rfl rfl (fun _=>rfl) cs60 (by first|exact .inl ⟨ag60,ok60,rfl⟩|exact .inr ⟨ag60,rfl,rfl⟩))
      repeat exact sd T
      refine wa_ T (g:=?_)
      apply TO.bm e_c ([(v17,v18)]:List (Nat×Nat)) (wn T) rfl (by simp only[zz,y13,e_c,Nat.reduceAdd,Nat.reduceMul,Nat.reduceLeDiff,Nat.reduceEqDiff,tslice,tparts,h4,h9,h10,h11l];exact rfl) rfl
      repeat exact sd T
      refine wa_ T (g:=?_)
      obtain⟨v19,h12,hr⟩:=bs hr
      apply TO.ap (f:=e_c) (xs:=v10) (ys:=([(v17,v18)]:List (Nat×Nat))) (wn T) rfl rfl (by first|rfl|simp only[List.length_set]) rfl rfl so32 ni32 zc60 rfl (by rw[by60];exact h12) (fun _=>⟨rfl,rfl,rfl⟩)
      repeat exact sd T
      refine wa_ T (g:=?_)
      cases hr
      refine⟨rfl,?_⟩
      exact wk_ T [some 0,some 1] rfl (rv (.rows .nil rfl rfl) rfl)
    ·have T:=an h9 T
     refine wa_ T (g:=?_)
     cases hr
     refine⟨rfl,?_⟩
     exact wk_ T [some 1] rfl (.rows .nil rfl rfl)
   ·intro e h;cases h
   ·try dsimp only
    refine wa_ T (g:=?_)
    cases hr
    refine⟨.inr rfl,_,(ry T),?_⟩
    exact wk_ T [some 0] rfl (.rows .nil rfl rfl)
   ·try dsimp only
    exact wk_ T [some 0,some 1] rfl (rv (.rows .nil rfl rfl) rfl)
 rfl
def y14:=an @by60 <| an @cs60 <| an @ni32 <| an @so32 <| @zc60
theorem lX{v1:(List (Nat×Nat))}{v2:(List (Nat×Nat))}(hr:iP v1=some (v2)):Spec (lim Try.prog) 12 [.list 1 (v1.map e_c)] ⟨[.lsl 0 0 v2.length],[.rows 1 (v2.map e_c)]⟩:=by
 unfold iP at hr
 have T:=an y14 <| @e_c.eq_1
 apply Spec.fn Try.func12 rfl
 focus (simp[Try.f12]<;>exact rfl)
 focus
  refine wa_ T (g:=?_)
  apply TO.bl e_c ([]:List (Nat×Nat)) (wn T) rfl (by simp only[zz,y14,e_c,Nat.reduceAdd,Nat.reduceMul,Nat.reduceLeDiff,Nat.reduceEqDiff,tslice,tparts];exact rfl) rfl rfl
  repeat exact sd T
  refine wa_ T (g:=?_)
  obtain⟨v3,h1,hr⟩:=bs hr
  apply TO.ap (f:=e_c) (xs:=([]:List (Nat×Nat))) (ys:=v1) (wn T) rfl rfl (by first|rfl|simp only[List.length_set]) rfl rfl so32 ni32 zc60 rfl (by rw[by60];exact h1) (fun _=>⟨rfl,rfl,rfl⟩)
  repeat exact sd T
  refine wa_ T (g:=?_)
  cases hr
  refine⟨.inr rfl,_,(ry T),?_⟩
  exact wr [some 0] rfl (.rows .nil rfl rfl)
 rfl
theorem fP{v1:(List (Nat×Nat))}{v2:(List (Nat×Nat))}(hr:cK v1=some (v2)):Spec (lim Try.prog) 31 [.list 1 (v1.map e_c)] ⟨[.func 63 [] [.fptr true [.list 1 (v2.map e_c)] 0]],[]⟩:=by
 unfold cK at hr
 have T:=@e_c.eq_1
 apply Spec.fn Try.func31 rfl
 focus (simp[Try.f31]<;>exact rfl)
 focus
  refine wb_ T (g:=?_)
  cases hr
  refine⟨.inr rfl,_,(ry T),?_⟩
  exact wr [] rfl .nil
 rfl
theorem uE{v1:Int}{v2:(List (Nat×Nat))}{v3:Int}{v4:(List (Nat×Nat))}(hr:lQ v1 v2=some (v3,v4)):Spec (lim Try.prog) 64 [.v (.int .i64 v1),.func 65 [] [.fptr true [.list 1 (v2.map e_c)] 0]] ⟨[.func 87 [] [.fptr true [.v (.int .i64 v3)] 0,.fptr true [.func 65 [] [.fptr true [.list 1 (v4.map e_c)] 0]] 0]],[]⟩:=by
 unfold lQ at hr
 have T:=@e_c.eq_1
 apply Spec.fn Try.func64 rfl
 focus (simp[Try.f64]<;>exact rfl)
 focus
  refine wb_ T (g:=?_)
  cases hr
  refine⟨.inr rfl,_,(ry T),?_⟩
  exact wr [] rfl .nil
 rfl
def y15:=an @Wa <| @ex106
theorem Bw{v1:Nat}{v2:Nat}(hr:lV v1=some (v2)):Spec (lim Try.prog) 100 [.v (.float .f64 v1)] ⟨[.v (.float .f64 v2)],[]⟩:=by
 unfold lV at hr
 have T:=y15
 apply Spec.fn Try.func100 rfl
 focus (simp[Try.f100]<;>exact rfl)
 focus
  refine wa_ T (g:=?_)
  obtain⟨v3,h1,hr⟩:=bs hr
  apply TO.tr (wn T) rfl ex106 Wa (by simp only[z1,z3,zl]<;>rfl) h1
  repeat exact sd T
  refine wa_ T (g:=?_)
  cases hr
  refine⟨.inr rfl,_,(ry T),?_⟩
  exact wr [] rfl .nil
 rfl
def y16:=an @ex110 <| @ex84
theorem Fn{v1:Nat}{v2:Nat}(hr:yT v1=some (v2)):Spec (lim Try.prog) 108 [.v (.float .f64 v1)] ⟨[.v (.float .f64 v2)],[]⟩:=by
 unfold yT at hr
 have T:=y16
 apply Spec.fn Try.func108 rfl
 focus (simp[Try.f108]<;>exact rfl)
 focus
  refine wa_ T (g:=?_)
  obtain⟨v3,h1,hr⟩:=bs hr
  apply TO.fb (wn T) rfl ex84 (by simp only[z1,z3,zl]<;>rfl) h1 rfl
  repeat exact sd T
  refine wa_ T (g:=?_)
  apply TO.pop1 (wn T) (uA rfl rfl (by decide))
  repeat exact sd T
  refine wa_ T (g:=?_)
  apply TO.ex (wn T) rfl ex110 (by simp only[z1,z3,zl];exact rfl) rfl rfl (rfl) rfl rfl rfl
  repeat exact sd T
  refine wa_ T (g:=?_)
  cases hr
  refine⟨.inr rfl,_,(ry T),?_⟩
  exact wr [] rfl .nil
 rfl
theorem Bo{v1:Nat}{v2:Int}{v3:Bool}(hr:nE v1 v2=some (v3)):Spec (lim Try.prog) 101 [.v (.float .f64 v1),.v (.int .i64 v2)] ⟨[.v (.bool v3)],[]⟩:=by
 unfold nE at hr
 have T:=trivial
 apply Spec.fn Try.func101 rfl
 focus (simp[Try.f101]<;>exact rfl)
 focus
  refine wa_ T (g:=?_)
  rcases ifs hr with⟨h1,hr⟩|⟨h1,hr⟩
  ·have T:=an h1 T
   refine wa_ T (g:=?_)
   obtain⟨v4,h2,hr⟩:=bs hr
   apply TO.cal (wn T) rfl Zs (Fn h2) rfl rfl rfl
   repeat exact sd T
   refine wa_ T (g:=?_)
   apply TO.pop1 (wn T) (rH rfl rfl (by decide))
   repeat exact sd T
   refine wa_ T (g:=?_)
   cases hr
   refine⟨.inr rfl,_,(ry T),?_⟩
   exact wk_ T [] rfl .nil
  ·have T:=an h1 T
   refine wa_ T (g:=?_)
   rcases ifs hr with⟨h3,hr⟩|⟨h3,hr⟩
   ·have T:=an h3 T
    refine wa_ T (g:=?_)
    apply TO.pop1 (wn T) (Mu rfl)
    repeat exact sd T
    refine wa_ T (g:=?_)
    apply TO.pop1 (wn T) (rH rfl rfl (by decide))
    repeat exact sd T
    refine wa_ T (g:=?_)
    cases hr
    refine⟨.inr rfl,_,(ry T),?_⟩
    exact wk_ T [] rfl .nil
   ·have T:=an h3 T
    refine wa_ T (g:=?_)
    apply TO.pop1 (wn T) (rH rfl rfl (by decide))
    repeat exact sd T
    refine wa_ T (g:=?_)
    cases hr
    refine⟨.inr rfl,_,(ry T),?_⟩
    exact wk_ T [] rfl .nil
 rfl
def y17:=an @un111 <| @un53
theorem pG{v1:Nat}{v2:Bool}(hr:iR v1=some (v2)):Spec (lim Try.prog) 88 [.v (.float .f32 v1)] ⟨[.v (.bool v2)],[]⟩:=by
 unfold iR at hr
 have T:=y17
 apply Spec.fn Try.func88 rfl
 focus (simp[Try.f88]<;>exact rfl)
 focus
  refine wa_ T (g:=?_)
  obtain⟨v3,h1,hr⟩:=bs hr
  apply TO.pop1 (wn T) (Bt un53 un111 rfl h1)
  repeat exact sd T
  refine wa_ T (g:=?_)
  obtain⟨v4,h2,hr⟩:=bs hr
  apply TO.cal (wn T) rfl aAg (Bw h2) rfl rfl rfl
  repeat exact sd T
  refine wa_ T (g:=?_)
  apply TO.pop1 (wn T) (rH rfl rfl (by decide))
  repeat exact sd T
  refine wa_ T (g:=?_)
  rcases ifs hr with⟨h3,hr⟩|⟨h3,hr⟩
  ·have T:=an h3 T
   refine wa_ T (g:=?_)
   obtain⟨v5,h4,hr⟩:=bs hr
   apply TO.cal (wn T) rfl aAf (Bo h4) rfl rfl rfl
   repeat exact sd T
   refine wa_ T (g:=?_)
   apply TO.pop1 (wn T) (eB rfl)
   repeat exact sd T
   refine wa_ T (g:=?_)
   cases hr
   refine⟨.inr rfl,_,(ry T),?_⟩
   exact wk_ T [] rfl .nil
  ·have T:=an h3 T
   refine wa_ T (g:=?_)
   cases hr
   refine⟨.inr rfl,_,(ry T),?_⟩
   exact wk_ T [] rfl .nil
 rfl
theorem dV{v1:Nat}{v2:Nat}{v3:Bool}(hr:aV v1 v2=some (v3)):Spec (lim Try.prog) 89 [.v (.float .f32 v1),.v (.float .f32 v2)] ⟨[.v (.bool v3)],[]⟩:=by
 unfold aV at hr
 have T:=trivial
 apply Spec.fn Try.func89 rfl
 focus (simp[Try.f89]<;>exact rfl)
 focus
  refine wa_ T (g:=?_)
  apply TO.pop1 (wn T) (Mu rfl)
  repeat exact sd T
  refine wa_ T (g:=?_)
  apply TO.pop1 (wn T) (rH rfl rfl (by decide))
  repeat exact sd T
  refine wa_ T (g:=?_)
  rcases ifs hr with⟨h1,hr⟩|⟨h1,hr⟩
  ·have T:=an h1 T
   refine wa_ T (g:=?_)
   apply TO.pop1 (wn T) (rH rfl rfl (by decide))
   repeat exact sd T
   refine wa_ T (g:=?_)
   cases hr
   refine⟨.inr rfl,_,(ry T),?_⟩
   exact wk_ T [] rfl .nil
  ·have T:=an h1 T
   refine wa_ T (g:=?_)
   cases hr
   refine⟨.inr rfl,_,(ry T),?_⟩
   exact wk_ T [] rfl .nil
 rfl
end Go.Rex
namespace Go.Rex
open Go.Proofs
open Go Go.Rex Go.RowKit
set_option maxRecDepth 100000
set_option maxHeartbeats 1000000
def y18:=an @cs64 <| an @so99 <| @zc64
theorem xA{v1:Nat}{v2:Nat}{v3:Int}(hr:lJ v1 v2=some (v3)):Spec (lim Try.prog) 66 [.v (.complex .f32 v1 v2)] ⟨[.v (.int .i64 v3)],[]⟩:=by
 unfold lJ at hr
 have T:=y18
 apply Spec.fn Try.func66 rfl
 focus (simp[Try.f66]<;>exact rfl)
 focus
  refine wa_ T (g:=?_)
  apply TO.pop1 (wn T) (yR rfl)
  repeat exact sd T
  refine wa_ T (g:=?_)
  apply TO.pop1 (wn T) (yS rfl)
  repeat exact sd T
  refine wa_ T (g:=?_)
  obtain⟨v4,h1,hr⟩:=bs hr
  apply TO.cal (wn T) rfl Xv (pG h1) rfl rfl rfl
  repeat exact sd T
  refine wa_ T (g:=?_)
  apply TO.pop1 (wn T) (eB rfl)
  repeat exact sd T
  refine wa_ T (g:=?_)
  rcases ifs hr with⟨h2,hr⟩|⟨h2,hr⟩
  ·have T:=an h2 T
   refine wa_ T (g:=?_)
   obtain⟨v5,h3,hr⟩:=bs hr
   apply TO.cal (wn T) rfl Xv (pG h3) rfl rfl rfl
   repeat exact sd T
   refine wa_ T (g:=?_)
   apply TO.pop1 (wn T) (eB rfl)
   repeat exact sd T
   refine wa_ T (g:=?_)
   obtain⟨⟨v6,v7⟩,h4,hr⟩:=bs hr
   try dsimp only at hr
   apply TO.cal (wn T) rfl iX (aF h4) rfl rfl rfl
   repeat exact sd T
   refine wa_ T (g:=?_)
   obtain⟨v8,h5,hr⟩:=bs hr
   apply TO.cal (wn T) rfl Kn (dV h5) rfl rfl rfl
   repeat exact sd T
   refine wa_ T (g:=?_)
   apply TO.pop1 (wn T) (eB rfl)
   repeat exact sd T
   refine wa_ T (g:=?_)
   rcases ifs hr with⟨h6,hr⟩|⟨h6,hr⟩
   ·have T:=an h6 T
    refine wa_ T (g:=?_)
    obtain⟨v9,h7,hr⟩:=bs hr
    apply TO.cal (wn T) rfl Kn (dV h7) rfl rfl rfl
    repeat exact sd T
    refine wa_ T (g:=?_)
    apply TO.pop1 (wn T) (eB rfl)
    repeat exact sd T
    refine wa_ T (g:=?_)
    obtain⟨⟨v10,v11⟩,h8,hr⟩:=bs hr
    try dsimp only at hr
    apply TO.cal (wn T) rfl iX (aF h8) rfl rfl rfl
    repeat exact sd T
    refine we_ T (g:=?_)
    obtain⟨v12,h9,hr⟩:=bs hr
    apply TO.cal (wn T) rfl nJ (aZ h9) rfl rfl rfl
    repeat exact sd T
    refine wa_ T (g:=?_)
    cases hr
    refine⟨.inr rfl,_,(ry T),?_⟩
    exact wk_ T [] rfl .nil
   ·have T:=an h6 T
    refine wa_ T (g:=?_)
    obtain⟨⟨v13,v14⟩,h10,hr⟩:=bs hr
    try dsimp only at hr
    apply TO.cal (wn T) rfl iX (aF h10) rfl rfl rfl
    repeat exact sd T
    refine we_ T (g:=?_)
    obtain⟨v15,h11,hr⟩:=bs hr
    apply TO.cal (wn T) rfl nJ (aZ h11) rfl rfl rfl
    repeat exact sd T
    refine wa_ T (g:=?_)
    cases hr
    refine⟨.inr rfl,_,(ry T),?_⟩
    exact wk_ T [] rfl .nil
  ·have T:=an h2 T
   refine wa_ T (g:=?_)
   obtain⟨⟨v16,v17⟩,h12,hr⟩:=bs hr
   try dsimp only at hr
   apply TO.cal (wn T) rfl iX (aF h12) rfl rfl rfl
   repeat exact sd T
   refine wa_ T (g:=?_)
   obtain⟨v18,h13,hr⟩:=bs hr
   apply TO.cal (wn T) rfl Kn (dV h13) rfl rfl rfl
   repeat exact sd T
   refine wa_ T (g:=?_)
   apply TO.pop1 (wn T) (eB rfl)
   repeat exact sd T
   refine wa_ T (g:=?_)
   rcases ifs hr with⟨h14,hr⟩|⟨h14,hr⟩
   ·have T:=an h14 T
    refine wa_ T (g:=?_)
    obtain⟨v19,h15,hr⟩:=bs hr
    apply TO.cal (wn T) rfl Kn (dV h15) rfl rfl rfl
    repeat exact sd T
    refine wa_ T (g:=?_)
    apply TO.pop1 (wn T) (eB rfl)
    repeat exact sd T
    refine wa_ T (g:=?_)
    obtain⟨⟨v20,v21⟩,h16,hr⟩:=bs hr
    try dsimp only at hr
    apply TO.cal (wn T) rfl iX (aF h16) rfl rfl rfl
    repeat exact sd T
    refine we_ T (g:=?_)
    obtain⟨v22,h17,hr⟩:=bs hr
    apply TO.cal (wn T) rfl nJ (aZ h17) rfl rfl rfl
    repeat exact sd T
    refine wa_ T (g:=?_)
    cases hr
    refine⟨.inr rfl,_,(ry T),?_⟩
    exact wk_ T [] rfl .nil
   ·have T:=an h14 T
    refine wa_ T (g:=?_)
    obtain⟨⟨v23,v24⟩,h18,hr⟩:=bs hr
    try dsimp only at hr
    apply TO.cal (wn T) rfl iX (aF h18) rfl rfl rfl
    repeat exact sd T
    refine we_ T (g:=?_)
    obtain⟨v25,h19,hr⟩:=bs hr
    apply TO.cal (wn T) rfl nJ (aZ h19) rfl rfl rfl
    repeat exact sd T
    refine wa_ T (g:=?_)
    cases hr
    refine⟨.inr rfl,_,(ry T),?_⟩
    exact wk_ T [] rfl .nil
 rfl
end Go.Rex
namespace Go.Rex
open Go.Proofs
open Go Go.Rex Go.RowKit
set_option maxRecDepth 100000
set_option maxHeartbeats 200000
def y19:=an @ag32 <| an @ag60 <| an @cs60 <| an @ok60 <| @so32
theorem oH{v1:Int}{v2:(List (Nat×Nat))}{v3:Int}(hr:fN v1 v2=some (v3)):Spec (lim Try.prog) 65 [.v (.int .i64 v1),.fptr true [.list 1 (v2.map e_c)] 0] ⟨[.v (.int .i64 v3)],[]⟩:=by
 unfold fN at hr
 have T:=an y19 <| @e_c.eq_1
 apply Spec.fn Try.func65 rfl
 focus (simp[Try.f65]<;>exact rfl)
 focus
  refine wA T (g:=?_)
  obtain⟨⟨v4,v5⟩,h1,hr⟩:=bs hr
  try dsimp only at hr
  have T:=an (gx e_c h1) T
  refine wA T (g:=?_)
  obtain⟨v6,h2,hr⟩:=bs hr
  apply TO.cal (wn T) rfl aAK (xA h2) rfl rfl rfl
  repeat exact sd T
  refine wa_ T (g:=?_)
  cases hr
  refine⟨.inr rfl,_,(ry T),?_⟩
  exact wr [] rfl .nil
 rfl
def y20:=an @ag102 <| an @ag3 <| @bP
theorem rF{v1:Int}{v2:(List (Nat×Nat))}{v3:Int}(hr:jP v1 v2=some (v3)):Spec (lim Try.prog) 87 [.fptr true [.v (.int .i64 v1)] 0,.fptr true [.func 65 [] [.fptr true [.list 1 (v2.map e_c)] 0]] 0] ⟨[.v (.int .i64 v3)],[]⟩:=by
 unfold jP at hr
 have T:=an y20 <| @e_c.eq_1
 apply Spec.fn Try.func87 rfl
 focus (simp[Try.f87]<;>exact rfl)
 focus
  refine wA T (g:=?_)
  obtain⟨v8,h7,hr⟩:=bs hr
  refine TX.loopE (step:=bL v1 v2) (x:=0) h7 (fun v4=>⟨.Z::.fptr true [.func 65 [] [.fptr true [.list 1 (v2.map e_c)] 0]] 0::.Z::.Z::.Z::.v (.int .i64 v1)::.v (.int .i64 v4)::.Z::.Z::.Z::.Z::.Z::.Z::.Z::.Z::.Z::[],[]⟩) (fun e=>match e with|(.inl v6)=>(.ret,⟨.Z::.Z::.v (.int .i64 v6)::.Z::.Z::.Z::.Z::.Z::.Z::.Z::.Z::.Z::.Z::.Z::.Z::.Z::[],[]⟩)|(.inr _)=>(.exit 0,⟨.Z::.Z::.Z::.Z::.Z::.Z::.Z::.Z::.Z::.Z::.Z::.Z::.Z::.Z::.Z::.Z::[],[]⟩)) ?_ ?_ ?_ ?_
  ·rintro v4 v0 hr
   dsimp only[bL] at hr
   try dsimp only
   refine wa_ T (g:=?_)
   rcases ifs hr with⟨h4,hr⟩|⟨h4,hr⟩
   ·have T:=an h4 T
    refine wA T (g:=?_)
    obtain⟨v7,h5,hr⟩:=bs hr
    apply TO.cal (wn T) rfl aAS (oH h5) rfl rfl rfl
    repeat exact sd T
    refine wa_ T (g:=?_)
    rcases ifs hr with⟨h6,hr⟩|⟨h6,hr⟩
    ·have T:=an h6 T
     refine wa_ T (g:=?_)
     cases hr
     refine⟨rfl,?_⟩
     exact wk_ T [] rfl .nil
    ·have T:=an h6 T
     refine wa_ T (g:=?_)
     cases hr
     refine⟨rfl,?_⟩
     exact wk_ T [] rfl .nil
   ·have T:=an h4 T
    refine wa_ T (g:=?_)
    cases hr
    refine⟨rfl,?_⟩
    exact wk_ T [] rfl .nil
  ·intro e h;rcases e with _|e<;>cases h
  ·try dsimp only
   rcases v8 with v9|_
   ·try dsimp only at hr
    try dsimp only
    refine wa_ T (g:=?_)
    cases hr
    refine⟨.inr rfl,_,(ry T),?_⟩
    exact wr [] rfl .nil
   ·try dsimp only at hr
    try dsimp only
    refine wa_ T (g:=?_)
    cases hr
    refine⟨.inr rfl,_,(ry T),?_⟩
    exact wr [] rfl .nil
  ·try dsimp only
   exact wr [] rfl .nil
 rfl
def y21:=an @ag64 <| an @cs64 <| an @ok64 <| an @so99 <| an @bP <| an @mX <| @rX
theorem qC{v1:Bool}{v2:Int}{v3:Bool}{v4:Int}{v5:Int}{v6:(List (Nat×Nat))}{v7:Int}(hr:gX v1 v2 v3 v4 v5 v6=some (v7)):Spec (lim Try.prog) 26 [.list 1 [[.func 70 [] [.fptr true [.v (.bool v1)] 0,.fptr true [.v (.int .i64 v2)] 0]],[.func 70 [] [.fptr true [.v (.bool v3)] 0,.fptr true [.v (.int .i64 v4)] 0]],[.func 87 [] [.fptr true [.v (.int .i64 v5)] 0,.fptr true [.func 65 [] [.fptr true [.list 1 (v6.map e_c)] 0]] 0]]]] ⟨[.v (.int .i64 v7)],[]⟩:=by
 unfold gX at hr
 have T:=an y21 <| @e_c.eq_1
 apply Spec.fn Try.func26 rfl
 focus (simp[Try.f26]<;>exact rfl)
 focus
  refine wc_ T (g:=?_)
  refine TX.unroll ?_
  repeat (first|(with_reducible first|refine mv ?_|refine m12 rfl ?_|refine TO.nil ?_)|((with_reducible first|apply TO.bin|apply TO.ia|apply TO.ld|apply TO.asg|apply TO.mv);(repeat (focus (show _=_;first|exact k1 rfl|exact k2 rfl|(simp only[zz,y21,e_c,Nat.reduceAdd,Nat.reduceMul,Nat.reduceLeDiff,Nat.reduceEqDiff,aB,z5,Int.reduceToNat,Int.reduceLE,Int.reduceLT,Int.cast_ofNat_Int,tload,bD,bC,List.getElem?_map]<;>exact rfl)|exact rfl)));(with_reducible apply TO.here))|((with_reducible apply TX.region);(focus (simp only[zl]<;>exact rfl));(focus rfl);(try dsimp only))|((with_reducible apply TX.cond_true);(focus rfl);(focus (first|rfl|(simp only[z1,zn];done))))|((with_reducible apply TX.cond_false);(focus rfl);(focus (first|rfl|(simp only[z1,zn];done))))|fail)
  obtain⟨v8,h1,hr⟩:=bs hr
  apply TO.cal (wn T) rfl nD (aD h1) rfl rfl rfl
  repeat exact sd T
  refine wa_ T (g:=?_)
  rcases ifs hr with⟨h2,hr⟩|⟨h2,hr⟩
  ·have T:=an h2 T
   refine wa_ T (g:=?_)
   cases hr
   refine⟨.inr rfl,_,(ry T),?_⟩
   exact wk_ T [] rfl .nil
  ·have T:=an h2 T
   refine wa_ T (g:=?_)
   refine TX.unroll ?_
   repeat (first|(with_reducible first|refine mv ?_|refine m12 rfl ?_|refine TO.nil ?_)|((with_reducible first|apply TO.bin|apply TO.ia|apply TO.ld|apply TO.asg|apply TO.mv);(repeat (focus (show _=_;first|exact k1 rfl|exact k2 rfl|(simp only[zz,y21,e_c,Nat.reduceAdd,Nat.reduceMul,Nat.reduceLeDiff,Nat.reduceEqDiff,aB,z5,Int.reduceToNat,Int.reduceLE,Int.reduceLT,Int.cast_ofNat_Int,tload,bD,bC,List.getElem?_map,h2]<;>exact rfl)|exact rfl)));(with_reducible apply TO.here))|((with_reducible apply TX.region);(focus (simp only[zl]<;>exact rfl));(focus rfl);(try dsimp only))|((with_reducible apply TX.cond_true);(focus rfl);(focus (first|rfl|(simp only[z1,zn,h2];done))))|((with_reducible apply TX.cond_false);(focus rfl);(focus (first|rfl|(simp only[z1,zn,h2];done))))|fail)
   obtain⟨v9,h3,hr⟩:=bs hr
   apply TO.cal (wn T) rfl nD (aD h3) rfl rfl rfl
   repeat exact sd T
   refine wa_ T (g:=?_)
   rcases ifs hr with⟨h4,hr⟩|⟨h4,hr⟩
   ·have T:=an h4 T
    refine wa_ T (g:=?_)
    cases hr
    refine⟨.inr rfl,_,(ry T),?_⟩
    exact wk_ T [] rfl .nil
   ·have T:=an h4 T
    refine wa_ T (g:=?_)
    refine TX.unroll ?_
    repeat (first|(with_reducible first|refine mv ?_|refine m12 rfl ?_|refine TO.nil ?_)|((with_reducible first|apply TO.bin|apply TO.ia|apply TO.ld|apply TO.asg|apply TO.mv);(repeat (focus (show _=_;first|exact k1 rfl|exact k2 rfl|(simp only[zz,y21,e_c,Nat.reduceAdd,Nat.reduceMul,Nat.reduceLeDiff,Nat.reduceEqDiff,aB,z5,Int.reduceToNat,Int.reduceLE,Int.reduceLT,Int.cast_ofNat_Int,tload,bD,bC,List.getElem?_map,h2,h4]<;>exact rfl)|exact rfl)));(with_reducible apply TO.here))|((with_reducible apply TX.region);(focus (simp only[zl]<;>exact rfl));(focus rfl);(try dsimp only))|((with_reducible apply TX.cond_true);(focus rfl);(focus (first|rfl|(simp only[z1,zn,h2,h4];done))))|((with_reducible apply TX.cond_false);(focus rfl);(focus (first|rfl|(simp only[z1,zn,h2,h4];done))))|fail)
    obtain⟨v10,h5,hr⟩:=bs hr
    apply TO.cal (wn T) rfl Pf (rF h5) rfl rfl rfl
    repeat exact sd T
    refine wa_ T (g:=?_)
    rcases ifs hr with⟨h6,hr⟩|⟨h6,hr⟩
    ·have T:=an h6 T
     refine wa_ T (g:=?_)
     cases hr
     refine⟨.inr rfl,_,(ry T),?_⟩
     exact wk_ T [] rfl .nil
    ·have T:=an h6 T
     refine wa_ T (g:=?_)
     refine TX.unroll ?_
     refine wa_ T (g:=?_)
     cases hr
     refine⟨.inr rfl,_,(ry T),?_⟩
     exact wk_ T [] rfl .nil
 rfl
def y22:=an @ag32 <| an @cs64 <| an @so32 <| an @so99 <| @zc64
theorem bT{v1:(List (Nat×Nat))}{v2:Int}(hr:aT v1=some (v2)):Spec (lim Try.prog) 63 [.fptr true [.list 1 (v1.map e_c)] 0] ⟨[.v (.int .i64 v2)],[]⟩:=by
 unfold aT at hr
 have T:=an y22 <| @e_c.eq_1
 apply Spec.fn Try.func63 rfl
 focus (simp[Try.f63]<;>exact rfl)
 focus
  refine wC T (g:=?_)
  obtain⟨⟨v3,v4⟩,h1,hr⟩:=bs hr
  try dsimp only at hr
  apply TD.cal (wn T) rfl iX (aF h1) rfl rfl rfl
  repeat exact sd T
  refine wC T (g:=?_)
  obtain⟨⟨v5,v6⟩,h2,hr⟩:=bs hr
  try dsimp only at hr
  apply TD.cal (wn T) rfl iX (aF h2) rfl rfl rfl
  repeat exact sd T
  refine wC T (g:=?_)
  obtain⟨⟨v7,v8⟩,h3,hr⟩:=bs hr
  try dsimp only at hr
  apply TD.cal (wn T) rfl Qd (uE h3) rfl rfl rfl
  repeat exact sd T
  refine we_ T (g:=?_)
  obtain⟨v9,h4,hr⟩:=bs hr
  apply TD.cal (wn T) rfl nJ (qC h4) rfl rfl rfl
  repeat exact sd T
  refine wa_ T (g:=?_)
  cases hr
  refine⟨.inr rfl,_,(ry T),?_⟩
  exact wr [] rfl .nil
 rfl
def y23:=an @ag64 <| an @cs64 <| an @ok64 <| an @so99 <| an @bP <| an @mX <| @rX
theorem pX{v1:(List (Nat×Nat))}{v2:(List (Nat×Nat))}{v3:Bool}{v4:Int}{v5:Int}(hr:eJ v1 v2 v3 v4=some (v5)):Spec (lim Try.prog) 26 [.list 1 [[.func 63 [] [.fptr true [.list 1 (v1.map e_c)] 0]],[.func 63 [] [.fptr true [.list 1 (v2.map e_c)] 0]],[.func 70 [] [.fptr true [.v (.bool v3)] 0,.fptr true [.v (.int .i64 v4)] 0]]]] ⟨[.v (.int .i64 v5)],[]⟩:=by
 unfold eJ at hr
 have T:=an y23 <| @e_c.eq_1
 apply Spec.fn Try.func26 rfl
 focus (simp[Try.f26]<;>exact rfl)
 focus
  refine wc_ T (g:=?_)
  refine TX.unroll ?_
  repeat (first|(with_reducible first|refine mv ?_|refine m12 rfl ?_|refine TO.nil ?_)|((with_reducible first|apply TO.bin|apply TO.ia|apply TO.ld|apply TO.asg|apply TO.mv);(repeat (focus (show _=_;first|exact k1 rfl|exact k2 rfl|(simp only[zz,y23,e_c,Nat.reduceAdd,Nat.reduceMul,Nat.reduceLeDiff,Nat.reduceEqDiff,aB,z5,Int.reduceToNat,Int.reduceLE,Int.reduceLT,Int.cast_ofNat_Int,tload,bD,bC,List.getElem?_map]<;>exact rfl)|exact rfl)));(with_reducible apply TO.here))|((with_reducible apply TX.region);(focus (simp only[zl]<;>exact rfl));(focus rfl);(try dsimp only))|((with_reducible apply TX.cond_true);(focus rfl);(focus (first|rfl|(simp only[z1,zn];done))))|((with_reducible apply TX.cond_false);(focus rfl);(focus (first|rfl|(simp only[z1,zn];done))))|fail)
  obtain⟨v6,h1,hr⟩:=bs hr
  apply TO.cal (wn T) rfl Al (bT h1) rfl rfl rfl
  repeat exact sd T
  refine wa_ T (g:=?_)
  rcases ifs hr with⟨h2,hr⟩|⟨h2,hr⟩
  ·have T:=an h2 T
   refine wa_ T (g:=?_)
   cases hr
   refine⟨.inr rfl,_,(ry T),?_⟩
   exact wk_ T [] rfl .nil
  ·have T:=an h2 T
   refine wa_ T (g:=?_)
   refine TX.unroll ?_
   repeat (first|(with_reducible first|refine mv ?_|refine m12 rfl ?_|refine TO.nil ?_)|((with_reducible first|apply TO.bin|apply TO.ia|apply TO.ld|apply TO.asg|apply TO.mv);(repeat (focus (show _=_;first|exact k1 rfl|exact k2 rfl|(simp only[zz,y23,e_c,Nat.reduceAdd,Nat.reduceMul,Nat.reduceLeDiff,Nat.reduceEqDiff,aB,z5,Int.reduceToNat,Int.reduceLE,Int.reduceLT,Int.cast_ofNat_Int,tload,bD,bC,List.getElem?_map,h2]<;>exact rfl)|exact rfl)));(with_reducible apply TO.here))|((with_reducible apply TX.region);(focus (simp only[zl]<;>exact rfl));(focus rfl);(try dsimp only))|((with_reducible apply TX.cond_true);(focus rfl);(focus (first|rfl|(simp only[z1,zn,h2];done))))|((with_reducible apply TX.cond_false);(focus rfl);(focus (first|rfl|(simp only[z1,zn,h2];done))))|fail)
   obtain⟨v7,h3,hr⟩:=bs hr
   apply TO.cal (wn T) rfl Al (bT h3) rfl rfl rfl
   repeat exact sd T
   refine wa_ T (g:=?_)
   rcases ifs hr with⟨h4,hr⟩|⟨h4,hr⟩
   ·have T:=an h4 T
    refine wa_ T (g:=?_)
    cases hr
    refine⟨.inr rfl,_,(ry T),?_⟩
    exact wk_ T [] rfl .nil
   ·have T:=an h4 T
    refine wa_ T (g:=?_)
    refine TX.unroll ?_
    repeat (first|(with_reducible first|refine mv ?_|refine m12 rfl ?_|refine TO.nil ?_)|((with_reducible first|apply TO.bin|apply TO.ia|apply TO.ld|apply TO.asg|apply TO.mv);(repeat (focus (show _=_;first|exact k1 rfl|exact k2 rfl|(simp only[zz,y23,e_c,Nat.reduceAdd,Nat.reduceMul,Nat.reduceLeDiff,Nat.reduceEqDiff,aB,z5,Int.reduceToNat,Int.reduceLE,Int.reduceLT,Int.cast_ofNat_Int,tload,bD,bC,List.getElem?_map,h2,h4]<;>exact rfl)|exact rfl)));(with_reducible apply TO.here))|((with_reducible apply TX.region);(focus (simp only[zl]<;>exact rfl));(focus rfl);(try dsimp only))|((with_reducible apply TX.cond_true);(focus rfl);(focus (first|rfl|(simp only[z1,zn,h2,h4];done))))|((with_reducible apply TX.cond_false);(focus rfl);(focus (first|rfl|(simp only[z1,zn,h2,h4];done))))|fail)
    obtain⟨v8,h5,hr⟩:=bs hr
    apply TO.cal (wn T) rfl nD (aD h5) rfl rfl rfl
    repeat exact sd T
    refine wa_ T (g:=?_)
    rcases ifs hr with⟨h6,hr⟩|⟨h6,hr⟩
    ·have T:=an h6 T
     refine wa_ T (g:=?_)
     cases hr
     refine⟨.inr rfl,_,(ry T),?_⟩
     exact wk_ T [] rfl .nil
    ·have T:=an h6 T
     refine wa_ T (g:=?_)
     refine TX.unroll ?_
     refine wa_ T (g:=?_)
     cases hr
     refine⟨.inr rfl,_,(ry T),?_⟩
     exact wk_ T [] rfl .nil
 rfl
def y24:=an @ag91 <| an @cs91 <| an @ok91 <| an @st91 <| an @un3 <| an @un53 <| @zc91
theorem oP{v1:Nat}{v2:Nat}{v3:Int}{v4:Int}(hr:gQ v1 v2=some (v3,v4)):Spec (lim Try.prog) 74 [.v (.complex .f32 v1 v2)] ⟨[.agg [.v (.int .i64 v3),.v (.int .i64 v4)]],[]⟩:=by
 unfold gQ at hr
 have T:=y24
 apply Spec.fn Try.func74 rfl
 focus (simp[Try.f74]<;>exact rfl)
 focus
  refine wa_ T (g:=?_)
  apply TO.pop1 (wn T) (yR rfl)
  repeat exact sd T
  refine wa_ T (g:=?_)
  obtain⟨v5,h1,hr⟩:=bs hr
  apply TO.pop1 (wn T) (vY un53 un3 rfl h1)
  repeat exact sd T
  refine wa_ T (g:=?_)
  apply TO.pop1 (wn T) (yS rfl)
  repeat exact sd T
  refine wa_ T (g:=?_)
  obtain⟨v6,h2,hr⟩:=bs hr
  apply TO.pop1 (wn T) (vY un53 un3 rfl h2)
  repeat exact sd T
  refine wa_ T (g:=?_)
  cases hr
  refine⟨.inr rfl,_,(ry T),?_⟩
  exact wr [] rfl .nil
 rfl
def y25:=an @ag60 <| an @by91 <| an @cs60 <| an @cs91 <| an @ni79 <| an @ok60 <| an @so32 <| an @so79 <| an @zc91 <| @bP
theorem dJ{v1:(List (Nat×Nat))}{v2:(List (Int×Int))}(hr:aY v1=some (v2)):Spec (lim Try.prog) 40 [.list 1 (v1.map e_c)] ⟨[.lsl 0 0 v2.length],[.rows 2 (v2.map e_ii)]⟩:=by
 unfold aY at hr
 have T:=an y25 <| an @e_c.eq_1 <| @e_ii.eq_1
 apply Spec.fn Try.func40 rfl
 focus (simp[Try.f40]<;>exact rfl)
 focus
  refine wc_ T (g:=?_)
  apply TX.vt (α:=(Int×Int)) e_ii 3 2 rfl
  repeat exact sd T
  with_reducible apply TX.here
  refine wa_ T (g:=?_)
  obtain⟨v16,h9,hr⟩:=bs hr
  refine TX.loopE (step:=cH v1) (x:=(([]:List (Int×Int)),0)) h9 (fun (v3,v4)=>⟨.Z::.Z::.Z::.lsl 0 0 v3.length::.Z::.Z::.list 1 (v1.map e_c)::.v (.int .i64 (v1.length:Int))::.v (.int .i64 v4)::.Z::.Z::.Z::.Z::.Z::.Z::.Z::.Z::.Z::.Z::[],[.rows 2 (v3.map e_ii)]⟩) (fun v10=>(.exit 0,⟨.Z::.Z::.Z::.lsl 0 0 v10.length::.Z::.Z::.Z::.Z::.Z::.Z::.Z::.Z::.Z::.Z::.Z::.Z::.Z::.Z::.Z::[],[.rows 2 (v10.map e_ii)]⟩)) ?_ ?_ ?_ ?_
  ·rintro⟨v3,v4⟩ v0 hr
   dsimp only[cH] at hr
   try dsimp only
   refine wa_ T (g:=?_)
   rcases ifs hr with⟨h5,hr⟩|⟨h5,hr⟩
   ·have T:=an h5 T
    refine wa_ T (g:=?_)
    obtain⟨⟨v11,v12⟩,h6,hr⟩:=bs hr
    try dsimp only at hr
    have h6m:=jU (f:=e_c) h6
    have h6l:=jQ h6
    try simp only[List.length_set] at h6l
    have h6a:=kL h6
    have T:=an h6m T
    have T:=an h6l T
    have T:=an h6a T
    refine wA T (g:=?_)
    obtain⟨⟨v13,v14⟩,h7,hr⟩:=bs hr
    try dsimp only at hr
    apply TO.cal (wn T) rfl Yp (oP h7) rfl rfl rfl
    repeat exact sd T
    refine wa_ T (g:=?_)
    apply TO.bm e_ii ([(v13,v14)]:List (Int×Int)) (wn T) rfl (by simp only[zz,y25,e_c,e_ii,Nat.reduceAdd,Nat.reduceMul,Nat.reduceLeDiff,Nat.reduceEqDiff,tslice,tparts,h5,h6m,h6l,h6a];exact rfl) rfl
    repeat exact sd T
    refine wa_ T (g:=?_)
    obtain⟨v15,h8,hr⟩:=bs hr
    apply TO.ap (f:=e_ii) (xs:=v3) (ys:=([(v13,v14)]:List (Int×Int))) (wn T) rfl rfl (by first|rfl|simp only[List.length_set]) rfl rfl so79 ni79 zc91 rfl (by rw[by91];exact h8) (fun _=>⟨rfl,rfl,rfl⟩)
    repeat exact sd T
    refine wa_ T (g:=?_)
    cases hr
    refine⟨rfl,?_⟩
    exact wk_ T [some 0] rfl (.rows .nil rfl rfl)
   ·have T:=an h5 T
    refine wa_ T (g:=?_)
    cases hr
    refine⟨rfl,?_⟩
    exact wk_ T [some 0] rfl (.rows .nil rfl rfl)
  ·intro e h;cases h
  ·try dsimp only
   refine wa_ T (g:=?_)
   cases hr
   refine⟨.inr rfl,_,(ry T),?_⟩
   exact wr [some 0] rfl (.rows .nil rfl rfl)
  ·try dsimp only
   exact wr [some 0] rfl (.rows .nil rfl rfl)
 rfl
def y26:=an @ag3 <| an @ag91 <| an @cs91 <| an @tJ <| an @tY <| an @ok91 <| an @st91 <| @zc91
theorem fH{v1:Int}{v2:Int}{v3:Int}{v4:Int}{v5:Int}{v6:Int}(hr:bB v1 v2 v3 v4=some (v5,v6)):Spec (lim Try.prog) 58 [.agg [.v (.int .i64 v1),.v (.int .i64 v2)],.agg [.v (.int .i64 v3),.v (.int .i64 v4)]] ⟨[.agg [.v (.int .i64 v5),.v (.int .i64 v6)]],[]⟩:=by
 unfold bB at hr
 have T:=y26
 apply Spec.fn Try.func58 rfl
 focus (simp[Try.f58]<;>exact rfl)
 focus
  refine wB T (g:=?_)
  cases hr
  refine⟨.inr rfl,_,(ry T),?_⟩
  exact wr [] rfl .nil
 rfl
def y27:=an @ag3 <| an @ag91 <| an @cs91 <| an @tJ <| an @tY <| an @ok91 <| an @st91 <| @zc91
theorem gA{v1:Int}{v2:Int}{v3:Int}{v4:Int}{v5:Int}{v6:Int}(hr:bS v1 v2 v3 v4=some (v5,v6)):Spec (lim Try.prog) 72 [.agg [.v (.int .i64 v1),.v (.int .i64 v2)],.agg [.v (.int .i64 v3),.v (.int .i64 v4)]] ⟨[.agg [.v (.int .i64 v5),.v (.int .i64 v6)]],[]⟩:=by
 unfold bS at hr
 have T:=y27
 apply Spec.fn Try.func72 rfl
 focus (simp[Try.f72]<;>exact rfl)
 focus
  refine wB T (g:=?_)
  cases hr
  refine⟨.inr rfl,_,(ry T),?_⟩
  exact wr [] rfl .nil
 rfl
end Go.Rex
namespace Go.Rex
open Go.Proofs
open Go Go.Rex Go.RowKit
set_option maxRecDepth 100000
set_option maxHeartbeats 1000000
def y28:=an @ag91 <| an @by91 <| an @cs91 <| an @ok91 <| an @so79 <| an @zc91 <| an @Vq <| @bP
theorem zU{v1:(List (Int×Int))}{v2:(List (Int×Int))}{v3:(List (Int×Int))}(hr:nV v1 v2=some (v3)):Spec (lim Try.prog) 54 [.list 2 (v1.map e_ii),.list 2 (v2.map e_ii)] ⟨[.lsl 0 0 v3.length],[.rows 2 (v3.map e_ii)]⟩:=by
 unfold nV at hr
 have T:=an y28 <| @e_ii.eq_1
 apply Spec.fn Try.func54 rfl
 focus (simp[Try.f54]<;>exact rfl)
 focus
  refine wc_ T (g:=?_)
  obtain⟨v4,h1,hr⟩:=bs hr
  apply TO.mk e_ii h1 (wn T) rfl rfl so79 zc91 by91 rfl rfl rfl
  repeat exact sd T
  refine wc_ T (g:=?_)
  obtain⟨v52,h28,hr⟩:=bs hr
  refine TX.loopE (step:=jA v1 v2) (x:=(v4,0)) h28 (fun (v5,v6)=>⟨.Z::.list 2 (v2.map e_ii)::.Z::.Z::.Z::.lsl 0 0 v5.length::.Z::.Z::.Z::.Z::.Z::.Z::.Z::.Z::.Z::.Z::.Z::.list 2 (v1.map e_ii)::.v (.int .i64 (v1.length:Int))::.v (.int .i64 v6)::.Z::.Z::.Z::.Z::.Z::.Z::.Z::.Z::.Z::.Z::.Z::.Z::.Z::.Z::.Z::.Z::.Z::.Z::.Z::.Z::.Z::.Z::.Z::.Z::.Z::.Z::.Z::.Z::.Z::[],[.rows 2 (v5.map e_ii)]⟩) (fun v29=>(.exit 0,⟨.Z::.Z::.Z::.Z::.Z::.lsl 0 0 v29.length::.Z::.Z::.Z::.Z::.Z::.Z::.Z::.Z::.Z::.Z::.Z::.Z::.Z::.Z::.Z::.Z::.Z::.Z::.Z::.Z::.Z::.Z::.Z::.Z::.Z::.Z::.Z::.Z::.Z::.Z::.Z::.Z::.Z::.Z::.Z::.Z::.Z::.Z::.Z::.Z::.Z::.Z::.Z::[],[.rows 2 (v29.map e_ii)]⟩)) ?_ ?_ ?_ ?_
  ·rintro⟨v5,v6⟩ v0 hr
   dsimp only[jA] at hr
   try dsimp only
   refine wa_ T (g:=?_)
   rcases ifs hr with⟨h15,hr⟩|⟨h15,hr⟩
   ·have T:=an h15 T
    refine wa_ T (g:=?_)
    obtain⟨⟨v30,v31⟩,h16,hr⟩:=bs hr
    try dsimp only at hr
    have T:=an (gx e_ii h16) T
    refine wC T (g:=?_)
    obtain⟨v51,h27,hr⟩:=bs hr
    refine TX.loopE (step:=eZ v2 v6 v30 v31) (x:=(v5,0)) h27 (fun (v32,v33)=>⟨.Z::.list 2 (v2.map e_ii)::.Z::.Z::.Z::.lsl 0 0 v32.length::.v (.int .i64 v6)::.lptr 1 0 0::.Z::.Z::.Z::.Z::.Z::.Z::.Z::.Z::.Z::.list 2 (v1.map e_ii)::.v (.int .i64 (v1.length:Int))::.v (.int .i64 v6)::.Z::.Z::.Z::.Z::.list 2 (v2.map e_ii)::.v (.int .i64 (v2.length:Int))::.v (.int .i64 v33)::.Z::.Z::.Z::.Z::.Z::.Z::.Z::.Z::.Z::.Z::.Z::.Z::.Z::.Z::.Z::.Z::.Z::.Z::.Z::.Z::.Z::.Z::[],[.rows 2 (v32.map e_ii),.var [.v (.int .i64 v30),.v (.int .i64 v31)]]⟩) (fun v42=>(.exit 2,⟨.Z::.list 2 (v2.map e_ii)::.Z::.Z::.Z::.lsl 0 0 v42.length::.Z::.Z::.Z::.Z::.Z::.Z::.Z::.Z::.Z::.Z::.Z::.list 2 (v1.map e_ii)::.v (.int .i64 (v1.length:Int))::.v (.int .i64 v6)::.Z::.Z::.Z::.Z::.Z::.Z::.Z::.Z::.Z::.Z::.Z::.Z::.Z::.Z::.Z::.Z::.Z::.Z::.Z::.Z::.Z::.Z::.Z::.Z::.Z::.Z::.Z::.Z::.Z::[],[.rows 2 (v42.map e_ii)]⟩)) ?_ ?_ ?_ ?_
    ·rintro⟨v32,v33⟩ v0 hr
     dsimp only[eZ] at hr
     try dsimp only
     refine wa_ T (g:=?_)
     rcases ifs hr with⟨h22,hr⟩|⟨h22,hr⟩
     ·have T:=an h22 T
      refine wa_ T (g:=?_)
      obtain⟨⟨v43,v44⟩,h23,hr⟩:=bs hr
      try dsimp only at hr
      have T:=an (gx e_ii h23) T
      refine wA T (g:=?_)
      obtain⟨⟨v45,v46⟩,h24,hr⟩:=bs hr
      try dsimp only at hr
      have h24m:=jU (f:=e_ii) h24
      have h24l:=jQ h24
      try simp only[List.length_set] at h24l
      have h24a:=kL h24
      have T:=an h24m T
      have T:=an h24l T
      have T:=an h24a T
      refine wA T (g:=?_)
      obtain⟨⟨v47,v48⟩,h25,hr⟩:=bs hr
      try dsimp only at hr
      apply TD.cal (wn T) rfl Km (fH h25) rfl rfl rfl
      repeat exact sd T
      refine wa_ T (g:=?_)
      obtain⟨⟨v49,v50⟩,h26,hr⟩:=bs hr
      try dsimp only at hr
      apply TD.cal (wn T) rfl Ka (gA h26) rfl rfl rfl
      repeat exact sd T
      refine wa_ T (g:=?_)
      apply TD.sr e_ii v32 (v45,v46) (v49,v50) h24a (wn T) rfl rfl rfl rfl rfl ok91 (by rw[cs91];rfl) rfl rfl rfl rfl rfl
      repeat exact sd T
      refine wa_ T (g:=?_)
      cases hr
      refine⟨rfl,?_⟩
      exact wk_ T [some 0,some 1] rfl (.rows (rv .nil rfl) rfl rfl)
     ·have T:=an h22 T
      refine wa_ T (g:=?_)
      cases hr
      refine⟨rfl,?_⟩
      exact wk_ T [some 0] rfl (.rows .nil rfl rfl)
    ·intro e h;cases h
    ·try dsimp only
     refine wa_ T (g:=?_)
     cases hr
     refine⟨rfl,?_⟩
     exact wk_ T [some 0] rfl (.rows .nil rfl rfl)
    ·try dsimp only
     exact wk_ T [some 0,some 1] rfl (.rows (rv .nil rfl) rfl rfl)
   ·have T:=an h15 T
    refine wa_ T (g:=?_)
    cases hr
    refine⟨rfl,?_⟩
    exact wk_ T [some 0] rfl (.rows .nil rfl rfl)
  ·intro e h;cases h
  ·try dsimp only
   refine wa_ T (g:=?_)
   cases hr
   refine⟨.inr rfl,_,(ry T),?_⟩
   exact wr [some 0] rfl (.rows .nil rfl rfl)
  ·try dsimp only
   exact wr [some 0] rfl (.rows .nil rfl rfl)
 rfl
end Go.Rex
namespace Go.Rex
open Go.Proofs
open Go Go.Rex Go.RowKit
set_option maxRecDepth 100000
set_option maxHeartbeats 200000
theorem uL{v1:Int}{v2:(List (Int×Int))}{v3:Int}{v4:(List (Int×Int))}(hr:lT v1 v2=some (v3,v4)):Spec (lim Try.prog) 64 [.v (.int .i64 v1),.func 75 [] [.fptr true [.list 2 (v2.map e_ii)] 0]] ⟨[.func 87 [] [.fptr true [.v (.int .i64 v3)] 0,.fptr true [.func 75 [] [.fptr true [.list 2 (v4.map e_ii)] 0]] 0]],[]⟩:=by
 unfold lT at hr
 have T:=@e_ii.eq_1
 apply Spec.fn Try.func64 rfl
 focus (simp[Try.f64]<;>exact rfl)
 focus
  refine wb_ T (g:=?_)
  cases hr
  refine⟨.inr rfl,_,(ry T),?_⟩
  exact wr [] rfl .nil
 rfl
theorem mH{v1:Int}{v2:Int}{v3:Bool}(hr:fL v1 v2=some (v3)):Spec (lim Try.prog) 93 [.v (.int .i64 v1),.v (.int .i64 v2)] ⟨[.v (.bool v3)],[]⟩:=by
 unfold fL at hr
 have T:=trivial
 apply Spec.fn Try.func93 rfl
 focus (simp[Try.f93]<;>exact rfl)
 focus
  refine wa_ T (g:=?_)
  apply TO.pop1 (wn T) (Cd rfl)
  repeat exact sd T
  refine wa_ T (g:=?_)
  rcases ifs hr with⟨h1,hr⟩|⟨h1,hr⟩
  ·have T:=an h1 T
   refine wa_ T (g:=?_)
   cases hr
   refine⟨.inr rfl,_,(ry T),?_⟩
   exact wk_ T [] rfl .nil
  ·have T:=an h1 T
   refine wa_ T (g:=?_)
   cases hr
   refine⟨.inr rfl,_,(ry T),?_⟩
   exact wk_ T [] rfl .nil
 rfl
def y29:=an @ag3 <| an @tJ <| @tY
theorem rE{v1:Int}{v2:Int}{v3:Int}{v4:Bool}{v5:Int}(hr:gS v1 v2 v3=some (v4,v5)):Spec (lim Try.prog) 76 [.agg [.v (.int .i64 v1),.v (.int .i64 v2)],.v (.int .i64 v3)] ⟨[.func 70 [] [.fptr true [.v (.bool v4)] 0,.fptr true [.v (.int .i64 v5)] 0]],[]⟩:=by
 unfold gS at hr
 have T:=y29
 apply Spec.fn Try.func76 rfl
 focus (simp[Try.f76]<;>exact rfl)
 focus
  refine wB T (g:=?_)
  obtain⟨v6,h1,hr⟩:=bs hr
  apply TO.cal (wn T) rfl Ww (mH h1) rfl rfl rfl
  repeat exact sd T
  refine wa_ T (g:=?_)
  apply TO.pop1 (wn T) (eB rfl)
  repeat exact sd T
  refine wa_ T (g:=?_)
  rcases ifs hr with⟨h2,hr⟩|⟨h2,hr⟩
  ·have T:=an h2 T
   refine wA T (g:=?_)
   obtain⟨v7,h3,hr⟩:=bs hr
   apply TO.cal (wn T) rfl Ww (mH h3) rfl rfl rfl
   repeat exact sd T
   refine wa_ T (g:=?_)
   apply TO.pop1 (wn T) (eB rfl)
   repeat exact sd T
   refine wa_ T (g:=?_)
   obtain⟨⟨v8,v9⟩,h4,hr⟩:=bs hr
   try dsimp only at hr
   apply TO.cal (wn T) rfl iX (aF h4) rfl rfl rfl
   repeat exact sd T
   refine wa_ T (g:=?_)
   cases hr
   refine⟨.inr rfl,_,(ry T),?_⟩
   exact wk_ T [] rfl .nil
  ·have T:=an h2 T
   refine wa_ T (g:=?_)
   obtain⟨⟨v10,v11⟩,h5,hr⟩:=bs hr
   try dsimp only at hr
   apply TO.cal (wn T) rfl iX (aF h5) rfl rfl rfl
   repeat exact sd T
   refine wa_ T (g:=?_)
   cases hr
   refine⟨.inr rfl,_,(ry T),?_⟩
   exact wk_ T [] rfl .nil
 rfl
def y30:=an @ag79 <| an @ag91 <| an @cs91 <| an @ok91 <| @so79
theorem oV{v1:Int}{v2:(List (Int×Int))}{v3:Int}(hr:fZ v1 v2=some (v3)):Spec (lim Try.prog) 75 [.v (.int .i64 v1),.fptr true [.list 2 (v2.map e_ii)] 0] ⟨[.v (.int .i64 v3)],[]⟩:=by
 unfold fZ at hr
 have T:=an y30 <| @e_ii.eq_1
 apply Spec.fn Try.func75 rfl
 focus (simp[Try.f75]<;>exact rfl)
 focus
  refine wA T (g:=?_)
  obtain⟨⟨v4,v5⟩,h1,hr⟩:=bs hr
  try dsimp only at hr
  have T:=an (gx e_ii h1) T
  refine wA T (g:=?_)
  obtain⟨⟨v6,v7⟩,h2,hr⟩:=bs hr
  try dsimp only at hr
  apply TO.cal (wn T) rfl aBw (rE h2) rfl rfl rfl
  repeat exact sd T
  refine wa_ T (g:=?_)
  obtain⟨v8,h3,hr⟩:=bs hr
  apply TO.cal (wn T) rfl nD (aD h3) rfl rfl rfl
  repeat exact sd T
  refine wa_ T (g:=?_)
  cases hr
  refine⟨.inr rfl,_,(ry T),?_⟩
  exact wr [] rfl .nil
 rfl
def y31:=an @ag102 <| an @ag3 <| @bP
theorem rU{v1:Int}{v2:(List (Int×Int))}{v3:Int}(hr:jL v1 v2=some (v3)):Spec (lim Try.prog) 87 [.fptr true [.v (.int .i64 v1)] 0,.fptr true [.func 75 [] [.fptr true [.list 2 (v2.map e_ii)] 0]] 0] ⟨[.v (.int .i64 v3)],[]⟩:=by
 unfold jL at hr
 have T:=an y31 <| @e_ii.eq_1
 apply Spec.fn Try.func87 rfl
 focus (simp[Try.f87]<;>exact rfl)
 focus
  refine wA T (g:=?_)
  obtain⟨v8,h7,hr⟩:=bs hr
  refine TX.loopE (step:=bY v1 v2) (x:=0) h7 (fun v4=>⟨.Z::.fptr true [.func 75 [] [.fptr true [.list 2 (v2.map e_ii)] 0]] 0::.Z::.Z::.Z::.v (.int .i64 v1)::.v (.int .i64 v4)::.Z::.Z::.Z::.Z::.Z::.Z::.Z::.Z::.Z::[],[]⟩) (fun e=>match e with|(.inl v6)=>(.ret,⟨.Z::.Z::.v (.int .i64 v6)::.Z::.Z::.Z::.Z::.Z::.Z::.Z::.Z::.Z::.Z::.Z::.Z::.Z::[],[]⟩)|(.inr _)=>(.exit 0,⟨.Z::.Z::.Z::.Z::.Z::.Z::.Z::.Z::.Z::.Z::.Z::.Z::.Z::.Z::.Z::.Z::[],[]⟩)) ?_ ?_ ?_ ?_
  ·rintro v4 v0 hr
   dsimp only[bY] at hr
   try dsimp only
   refine wa_ T (g:=?_)
   rcases ifs hr with⟨h4,hr⟩|⟨h4,hr⟩
   ·have T:=an h4 T
    refine wA T (g:=?_)
    obtain⟨v7,h5,hr⟩:=bs hr
    apply TO.cal (wn T) rfl aAH (oV h5) rfl rfl rfl
    repeat exact sd T
    refine wa_ T (g:=?_)
    rcases ifs hr with⟨h6,hr⟩|⟨h6,hr⟩
    ·have T:=an h6 T
     refine wa_ T (g:=?_)
     cases hr
     refine⟨rfl,?_⟩
     exact wk_ T [] rfl .nil
    ·have T:=an h6 T
     refine wa_ T (g:=?_)
     cases hr
     refine⟨rfl,?_⟩
     exact wk_ T [] rfl .nil
   ·have T:=an h4 T
    refine wa_ T (g:=?_)
    cases hr
    refine⟨rfl,?_⟩
    exact wk_ T [] rfl .nil
  ·intro e h;rcases e with _|e<;>cases h
  ·try dsimp only
   rcases v8 with v9|_
   ·try dsimp only at hr
    try dsimp only
    refine wa_ T (g:=?_)
    cases hr
    refine⟨.inr rfl,_,(ry T),?_⟩
    exact wr [] rfl .nil
   ·try dsimp only at hr
    try dsimp only
    refine wa_ T (g:=?_)
    cases hr
    refine⟨.inr rfl,_,(ry T),?_⟩
    exact wr [] rfl .nil
  ·try dsimp only
   exact wr [] rfl .nil
 rfl
def y32:=an @ag3 <| an @ag79 <| an @ag91 <| an @by60 <| an @cs60 <| an @cs91 <| an @tJ <| an @tY <| an @ni32 <| an @ok91 <| an @so32 <| an @so79 <| an @un3 <| an @un53 <| an @zc60 <| an @zc91 <| @bP
theorem fT{v1:(List (Int×Int))}{v2:(List (Nat×Nat))}{v3:Int}(hr:bR v1=some (v2,v3)):Spec (lim Try.prog) 43 [.list 2 (v1.map e_ii)] ⟨[.tuple [.lsl 0 0 v2.length,.v (.int .i64 v3)]],[.rows 1 (v2.map e_c)]⟩:=by
 unfold bR at hr
 have T:=an y32 <| an @e_c.eq_1 <| @e_ii.eq_1
 apply Spec.fn Try.func43 rfl
 focus (simp[Try.f43]<;>exact rfl)
 focus
  refine wD T (g:=?_)
  obtain⟨⟨v4,v5⟩,h1,hr⟩:=bs hr
  try dsimp only at hr
  apply TO.cal (wn T) rfl Qd (uL h1) rfl rfl rfl
  repeat exact sd T
  refine wa_ T (g:=?_)
  obtain⟨v6,h2,hr⟩:=bs hr
  apply TO.cal (wn T) rfl Pf (rU h2) rfl rfl rfl
  repeat exact sd T
  refine wa_ T (g:=?_)
  rcases ifs hr with⟨h3,hr⟩|⟨h3,hr⟩
  ·have T:=an h3 T
   refine wa_ T (g:=?_)
   cases hr
   refine⟨.inr rfl,_,(ry T),?_⟩
   exact wk_ T [none] rfl (.virt .nil)
  ·have T:=an h3 T
   refine wC T (g:=?_)
   apply TX.vt (α:=(Nat×Nat)) e_c 5 1 rfl
   repeat exact sd T
   with_reducible apply TX.here
   refine wa_ T (g:=?_)
   obtain⟨v16,h10,hr⟩:=bs hr
   refine TX.loopE (step:=dT v1) (x:=(([]:List (Nat×Nat)),0)) h10 (fun (v7,v8)=>⟨.Z::.Z::.Z::.Z::.Z::.lsl 0 0 v7.length::.Z::.Z::.Z::.Z::.Z::.Z::.Z::.Z::.Z::.Z::.list 2 (v1.map e_ii)::.v (.int .i64 (v1.length:Int))::.v (.int .i64 v8)::.Z::.Z::.Z::.Z::.Z::.Z::.Z::.Z::.Z::.Z::.Z::.Z::.Z::.Z::.Z::[],[.rows 1 (v7.map e_c)]⟩) (fun v12=>(.exit 0,⟨.Z::.Z::.Z::.Z::.Z::.lsl 0 0 v12.length::.Z::.Z::.Z::.Z::.Z::.Z::.Z::.Z::.Z::.Z::.Z::.Z::.Z::.Z::.Z::.Z::.Z::.Z::.Z::.Z::.Z::.Z::.Z::.Z::.Z::.Z::.Z::.Z::[],[.rows 1 (v12.map e_c)]⟩)) ?_ ?_ ?_ ?_
   ·rintro⟨v7,v8⟩ v0 hr
    dsimp only[dT] at hr
    try dsimp only
    refine wa_ T (g:=?_)
    rcases ifs hr with⟨h7,hr⟩|⟨h7,hr⟩
    ·have T:=an h7 T
     refine wa_ T (g:=?_)
     obtain⟨⟨v13,v14⟩,h8,hr⟩:=bs hr
     try dsimp only at hr
     have h8m:=jU (f:=e_ii) h8
     have h8l:=jQ h8
     try simp only[List.length_set] at h8l
     have h8a:=kL h8
     have T:=an h8m T
     have T:=an h8l T
     have T:=an h8a T
     refine wA T (g:=?_)
     apply TO.pop1 (wn T) (nT un3 un53 rfl)
     repeat exact sd T
     refine wA T (g:=?_)
     apply TO.pop1 (wn T) (nT un3 un53 rfl)
     repeat exact sd T
     refine wa_ T (g:=?_)
     apply TO.pop1 (wn T) (Ap rfl rfl)
     repeat exact sd T
     refine wa_ T (g:=?_)
     apply TO.bm e_c ([((FloatKind.f32.nearest v13),(FloatKind.f32.nearest v14))]:List (Nat×Nat)) (wn T) rfl (by simp only[zz,y32,e_c,e_ii,Nat.reduceAdd,Nat.reduceMul,Nat.reduceLeDiff,Nat.reduceEqDiff,tslice,tparts,h3,h7,h8m,h8l,h8a];exact rfl) rfl
     repeat exact sd T
     refine wa_ T (g:=?_)
     obtain⟨v15,h9,hr⟩:=bs hr
     apply TO.ap (f:=e_c) (xs:=v7) (ys:=([((FloatKind.f32.nearest v13),(FloatKind.f32.nearest v14))]:List (Nat×Nat))) (wn T) rfl rfl (by first|rfl|simp only[List.length_set]) rfl rfl so32 ni32 zc60 rfl (by rw[by60];exact h9) (fun _=>⟨rfl,rfl,rfl⟩)
     repeat exact sd T
     refine wa_ T (g:=?_)
     cases hr
     refine⟨rfl,?_⟩
     exact wk_ T [some 0] rfl (.rows .nil rfl rfl)
    ·have T:=an h7 T
     refine wa_ T (g:=?_)
     cases hr
     refine⟨rfl,?_⟩
     exact wk_ T [some 0] rfl (.rows .nil rfl rfl)
   ·intro e h;cases h
   ·try dsimp only
    refine wa_ T (g:=?_)
    cases hr
    refine⟨.inr rfl,_,(ry T),?_⟩
    exact wk_ T [some 0] rfl (.rows .nil rfl rfl)
   ·try dsimp only
    exact wk_ T [some 0] rfl (.rows .nil rfl rfl)
 rfl
def y33:=an @cs64 <| an @so32 <| an @so99 <| @zc64
theorem zY{v1:(List (Nat×Nat))}{v2:(List (Nat×Nat))}{v3:(List (Nat×Nat))}{v4:Int}(hr:fG v1 v2=some (v3,v4)):Spec (lim Try.prog) 19 [.list 1 (v1.map e_c),.list 1 (v2.map e_c)] ⟨[.tuple [.lsl 0 0 v3.length,.v (.int .i64 v4)]],[.rows 1 (v3.map e_c)]⟩:=by
 unfold fG at hr
 have T:=an y33 <| @e_c.eq_1
 apply Spec.fn Try.func19 rfl
 focus (simp[Try.f19]<;>exact rfl)
 focus
  refine wa_ T (g:=?_)
  obtain⟨v5,h1,hr⟩:=bs hr
  apply TO.cal (wn T) rfl yZ (fP h1) rfl rfl rfl
  repeat exact sd T
  refine wa_ T (g:=?_)
  obtain⟨v6,h2,hr⟩:=bs hr
  apply TO.cal (wn T) rfl yZ (fP h2) rfl rfl rfl
  repeat exact sd T
  refine wc_ T (g:=?_)
  obtain⟨⟨v7,v8⟩,h3,hr⟩:=bs hr
  try dsimp only at hr
  apply TO.cal (wn T) rfl iX (aF h3) rfl rfl rfl
  repeat exact sd T
  refine we_ T (g:=?_)
  obtain⟨v9,h4,hr⟩:=bs hr
  apply TO.cal (wn T) rfl nJ (pX h4) rfl rfl rfl
  repeat exact sd T
  refine wa_ T (g:=?_)
  rcases ifs hr with⟨h5,hr⟩|⟨h5,hr⟩
  ·have T:=an h5 T
   refine wa_ T (g:=?_)
   cases hr
   refine⟨.inr rfl,_,(ry T),?_⟩
   exact wk_ T [none] rfl (.virt .nil)
  ·have T:=an h5 T
   refine wa_ T (g:=?_)
   obtain⟨v10,h6,hr⟩:=bs hr
   apply TO.cal (wn T) rfl zR (dJ h6) rfl rfl rfl
   repeat exact sd T
   refine wa_ T (g:=?_)
   obtain⟨v11,h7,hr⟩:=bs hr
   apply TO.cal (wn T) rfl zR (dJ h7) rfl rfl rfl
   repeat exact sd T
   refine wa_ T (g:=?_)
   obtain⟨v12,h8,hr⟩:=bs hr
   apply TO.lok (wn T) rfl aBs (zU h8) (vw T) rfl rfl (by simp[oG,cl,e_i,e_c,e_ii])
   repeat exact sd T
   refine wa_ T (g:=?_)
   obtain⟨⟨v13,v14⟩,h9,hr⟩:=bs hr
   try dsimp only at hr
   apply TO.lok (wn T) rfl Cr (fT h9) (vw T) rfl rfl (by simp[oG,cl,e_i,e_c,e_ii])
   repeat exact sd T
   refine wa_ T (g:=?_)
   cases hr
   refine⟨.inr rfl,_,(ry T),?_⟩
   exact wk_ T [some 3] rfl (.rows .nil rfl rfl)
 rfl
theorem wW{v1:(List (Nat×Nat))}{v2:(List (Nat×Nat))}(hr:nM v1=some (v2)):Spec (lim Try.prog) 55 [.list 1 (v1.map e_c)] ⟨[.func 85 [] [.fptr true [.list 1 (v2.map e_c)] 0]],[]⟩:=by
 unfold nM at hr
 have T:=@e_c.eq_1
 apply Spec.fn Try.func55 rfl
 focus (simp[Try.f55]<;>exact rfl)
 focus
  refine wb_ T (g:=?_)
  cases hr
  refine⟨.inr rfl,_,(ry T),?_⟩
  exact wr [] rfl .nil
 rfl
def y34:=an @ag3 <| an @ag91 <| an @cs91 <| an @tJ <| an @tY <| an @ok91 <| an @st91 <| @zc91
theorem kF{v1:Int}{v2:Int}{v3:Int}{v4:Int}(hr:cM v1 v2=some (v3,v4)):Spec (lim Try.prog) 56 [.agg [.v (.int .i64 v1),.v (.int .i64 v2)]] ⟨[.agg [.v (.int .i64 v3),.v (.int .i64 v4)]],[]⟩:=by
 unfold cM at hr
 have T:=y34
 apply Spec.fn Try.func56 rfl
 focus (simp[Try.f56]<;>exact rfl)
 focus
  refine wB T (g:=?_)
  apply TO.pop1 (wn T) (Cd rfl)
  repeat exact sd T
  refine wa_ T (g:=?_)
  cases hr
  refine⟨.inr rfl,_,(ry T),?_⟩
  exact wr [] rfl .nil
 rfl
def y35:=an @ag32 <| an @ag60 <| an @ag91 <| an @cs60 <| an @cs91 <| an @eqg91 <| an @eqs91 <| an @ok60 <| an @ok91 <| an @so32 <| an @st91 <| @zc91
theorem pS{v1:(List (Nat×Nat))}{v2:Int}(hr:cW v1=some (v2)):Spec (lim Try.prog) 85 [.fptr true [.list 1 (v1.map e_c)] 0] ⟨[.v (.int .i64 v2)],[]⟩:=by
 unfold cW at hr
 have T:=an y35 <| @e_c.eq_1
 apply Spec.fn Try.func85 rfl
 focus (simp[Try.f85]<;>exact rfl)
 focus
  refine wA T (g:=?_)
  obtain⟨⟨v3,v4⟩,h1,hr⟩:=bs hr
  try dsimp only at hr
  have T:=an (gx e_c h1) T
  refine wA T (g:=?_)
  obtain⟨⟨v5,v6⟩,h2,hr⟩:=bs hr
  try dsimp only at hr
  apply TO.cal (wn T) rfl Yp (oP h2) rfl rfl rfl
  repeat exact sd T
  refine wA T (g:=?_)
  obtain⟨⟨v7,v8⟩,h3,hr⟩:=bs hr
  try dsimp only at hr
  apply TD.cal (wn T) rfl Wj (kF h3) rfl rfl rfl
  repeat exact sd T
  refine wa_ T (g:=?_)
  obtain⟨⟨v9,v10⟩,h4,hr⟩:=bs hr
  try dsimp only at hr
  apply TD.cal (wn T) rfl Km (fH h4) rfl rfl rfl
  repeat exact sd T
  refine wa_ T (g:=?_)
  apply TD.pop1 (wn T) (Yt (X:=⟨[.int .i64 (v9),.int .i64 (v10)]⟩) (Y:=⟨[.int .i64 (1),.int .i64 (0)]⟩) rfl rfl rfl rfl rfl rfl rfl eqg91 eqs91 rfl)
  repeat exact sd T
  refine wa_ T (g:=?_)
  obtain⟨⟨v11,v12⟩,h5,hr⟩:=bs hr
  try dsimp only at hr
  apply TD.cal (wn T) rfl iX (aF h5) rfl rfl rfl
  repeat exact sd T
  refine wa_ T (g:=?_)
  obtain⟨v13,h6,hr⟩:=bs hr
  apply TD.cal (wn T) rfl nD (aD h6) rfl rfl rfl
  repeat exact sd T
  refine wa_ T (g:=?_)
  cases hr
  refine⟨.inr rfl,_,(ry T),?_⟩
  exact wr [] rfl .nil
 rfl
def y36:=an @ag64 <| an @cs64 <| an @ok64 <| an @so99 <| an @bP <| an @mX <| @rX
theorem pY{v1:(List (Nat×Nat))}{v2:(List (Nat×Nat))}{v3:(List (Nat×Nat))}{v4:Int}(hr:eM v1 v2 v3=some (v4)):Spec (lim Try.prog) 26 [.list 1 [[.func 63 [] [.fptr true [.list 1 (v1.map e_c)] 0]],[.func 63 [] [.fptr true [.list 1 (v2.map e_c)] 0]],[.func 85 [] [.fptr true [.list 1 (v3.map e_c)] 0]]]] ⟨[.v (.int .i64 v4)],[]⟩:=by
 unfold eM at hr
 have T:=an y36 <| @e_c.eq_1
 apply Spec.fn Try.func26 rfl
 focus (simp[Try.f26]<;>exact rfl)
 focus
  refine wc_ T (g:=?_)
  refine TX.unroll ?_
  repeat (first|(with_reducible first|refine mv ?_|refine m12 rfl ?_|refine TO.nil ?_)|((with_reducible first|apply TO.bin|apply TO.ia|apply TO.ld|apply TO.asg|apply TO.mv);(repeat (focus (show _=_;first|exact k1 rfl|exact k2 rfl|(simp only[zz,y36,e_c,Nat.reduceAdd,Nat.reduceMul,Nat.reduceLeDiff,Nat.reduceEqDiff,aB,z5,Int.reduceToNat,Int.reduceLE,Int.reduceLT,Int.cast_ofNat_Int,tload,bD,bC,List.getElem?_map]<;>exact rfl)|exact rfl)));(with_reducible apply TO.here))|((with_reducible apply TX.region);(focus (simp only[zl]<;>exact rfl));(focus rfl);(try dsimp only))|((with_reducible apply TX.cond_true);(focus rfl);(focus (first|rfl|(simp only[z1,zn];done))))|((with_reducible apply TX.cond_false);(focus rfl);(focus (first|rfl|(simp only[z1,zn];done))))|fail)
  obtain⟨v5,h1,hr⟩:=bs hr
  apply TO.cal (wn T) rfl Al (bT h1) rfl rfl rfl
  repeat exact sd T
  refine wa_ T (g:=?_)
  rcases ifs hr with⟨h2,hr⟩|⟨h2,hr⟩
  ·have T:=an h2 T
   refine wa_ T (g:=?_)
   cases hr
   refine⟨.inr rfl,_,(ry T),?_⟩
   exact wk_ T [] rfl .nil
  ·have T:=an h2 T
   refine wa_ T (g:=?_)
   refine TX.unroll ?_
   repeat (first|(with_reducible first|refine mv ?_|refine m12 rfl ?_|refine TO.nil ?_)|((with_reducible first|apply TO.bin|apply TO.ia|apply TO.ld|apply TO.asg|apply TO.mv);(repeat (focus (show _=_;first|exact k1 rfl|exact k2 rfl|(simp only[zz,y36,e_c,Nat.reduceAdd,Nat.reduceMul,Nat.reduceLeDiff,Nat.reduceEqDiff,aB,z5,Int.reduceToNat,Int.reduceLE,Int.reduceLT,Int.cast_ofNat_Int,tload,bD,bC,List.getElem?_map,h2]<;>exact rfl)|exact rfl)));(with_reducible apply TO.here))|((with_reducible apply TX.region);(focus (simp only[zl]<;>exact rfl));(focus rfl);(try dsimp only))|((with_reducible apply TX.cond_true);(focus rfl);(focus (first|rfl|(simp only[z1,zn,h2];done))))|((with_reducible apply TX.cond_false);(focus rfl);(focus (first|rfl|(simp only[z1,zn,h2];done))))|fail)
   obtain⟨v6,h3,hr⟩:=bs hr
   apply TO.cal (wn T) rfl Al (bT h3) rfl rfl rfl
   repeat exact sd T
   refine wa_ T (g:=?_)
   rcases ifs hr with⟨h4,hr⟩|⟨h4,hr⟩
   ·have T:=an h4 T
    refine wa_ T (g:=?_)
    cases hr
    refine⟨.inr rfl,_,(ry T),?_⟩
    exact wk_ T [] rfl .nil
   ·have T:=an h4 T
    refine wa_ T (g:=?_)
    refine TX.unroll ?_
    repeat (first|(with_reducible first|refine mv ?_|refine m12 rfl ?_|refine TO.nil ?_)|((with_reducible first|apply TO.bin|apply TO.ia|apply TO.ld|apply TO.asg|apply TO.mv);(repeat (focus (show _=_;first|exact k1 rfl|exact k2 rfl|(simp only[zz,y36,e_c,Nat.reduceAdd,Nat.reduceMul,Nat.reduceLeDiff,Nat.reduceEqDiff,aB,z5,Int.reduceToNat,Int.reduceLE,Int.reduceLT,Int.cast_ofNat_Int,tload,bD,bC,List.getElem?_map,h2,h4]<;>exact rfl)|exact rfl)));(with_reducible apply TO.here))|((with_reducible apply TX.region);(focus (simp only[zl]<;>exact rfl));(focus rfl);(try dsimp only))|((with_reducible apply TX.cond_true);(focus rfl);(focus (first|rfl|(simp only[z1,zn,h2,h4];done))))|((with_reducible apply TX.cond_false);(focus rfl);(focus (first|rfl|(simp only[z1,zn,h2,h4];done))))|fail)
    obtain⟨v7,h5,hr⟩:=bs hr
    apply TO.cal (wn T) rfl aBl (pS h5) rfl rfl rfl
    repeat exact sd T
    refine wa_ T (g:=?_)
    rcases ifs hr with⟨h6,hr⟩|⟨h6,hr⟩
    ·have T:=an h6 T
     refine wa_ T (g:=?_)
     cases hr
     refine⟨.inr rfl,_,(ry T),?_⟩
     exact wk_ T [] rfl .nil
    ·have T:=an h6 T
     refine wa_ T (g:=?_)
     refine TX.unroll ?_
     refine wa_ T (g:=?_)
     cases hr
     refine⟨.inr rfl,_,(ry T),?_⟩
     exact wk_ T [] rfl .nil
 rfl
def y37:=an @ag3 <| an @ag91 <| an @cs91 <| an @tJ <| an @tY <| an @ok91 <| an @st91 <| @zc91
theorem sJ{v1:Int}{v2:Int}{v3:Int}{v4:Int}{v5:Int}{v6:Int}(hr:kJ v1 v2 v3 v4=some (v5,v6)):Spec (lim Try.prog) 57 [.agg [.v (.int .i64 v1),.v (.int .i64 v2)],.agg [.v (.int .i64 v3),.v (.int .i64 v4)]] ⟨[.agg [.v (.int .i64 v5),.v (.int .i64 v6)]],[]⟩:=by
 unfold kJ at hr
 have T:=y37
 apply Spec.fn Try.func57 rfl
 focus (simp[Try.f57]<;>exact rfl)
 focus
  refine wB T (g:=?_)
  cases hr
  refine⟨.inr rfl,_,(ry T),?_⟩
  exact wr [] rfl .nil
 rfl
end Go.Rex
namespace Go.Rex
open Go.Proofs
open Go Go.Rex Go.RowKit
set_option maxRecDepth 100000
set_option maxHeartbeats 1000000
def y38:=an @ag91 <| an @by91 <| an @cs64 <| an @cs91 <| an @ni79 <| an @ok91 <| an @so79 <| an @so99 <| an @zc64 <| an @zc91 <| @bP
theorem wR{v1:(List (Nat×Nat))}{v2:(List (Nat×Nat))}{v3:(List (Nat×Nat))}{v4:Int}(hr:gE v1 v2=some (v3,v4)):Spec (lim Try.prog) 20 [.list 1 (v1.map e_c),.list 1 (v2.map e_c)] ⟨[.tuple [.lsl 0 0 v3.length,.v (.int .i64 v4)]],[.rows 1 (v3.map e_c)]⟩:=by
 unfold gE at hr
 have T:=an y38 <| an @e_c.eq_1 <| @e_ii.eq_1
 apply Spec.fn Try.func20 rfl
 focus (simp[Try.f20]<;>exact rfl)
 focus
  refine wa_ T (g:=?_)
  obtain⟨v5,h1,hr⟩:=bs hr
  apply TO.cal (wn T) rfl yZ (fP h1) rfl rfl rfl
  repeat exact sd T
  refine wa_ T (g:=?_)
  obtain⟨v6,h2,hr⟩:=bs hr
  apply TO.cal (wn T) rfl yZ (fP h2) rfl rfl rfl
  repeat exact sd T
  refine wa_ T (g:=?_)
  obtain⟨v7,h3,hr⟩:=bs hr
  apply TO.cal (wn T) rfl aA9 (wW h3) rfl rfl rfl
  repeat exact sd T
  refine we_ T (g:=?_)
  obtain⟨v8,h4,hr⟩:=bs hr
  apply TO.cal (wn T) rfl nJ (pY h4) rfl rfl rfl
  repeat exact sd T
  refine wa_ T (g:=?_)
  rcases ifs hr with⟨h5,hr⟩|⟨h5,hr⟩
  ·have T:=an h5 T
   refine wa_ T (g:=?_)
   cases hr
   refine⟨.inr rfl,_,(ry T),?_⟩
   exact wk_ T [none] rfl (.virt .nil)
  ·have T:=an h5 T
   refine wa_ T (g:=?_)
   obtain⟨v9,h6,hr⟩:=bs hr
   apply TO.cal (wn T) rfl zR (dJ h6) rfl rfl rfl
   repeat exact sd T
   refine wa_ T (g:=?_)
   obtain⟨⟨v10,v11⟩,h7,hr⟩:=bs hr
   try dsimp only at hr
   have h7m:=jU (f:=e_ii) h7
   have h7l:=jQ h7
   try simp only[List.length_set] at h7l
   have h7a:=kL h7
   have T:=an h7m T
   have T:=an h7l T
   have T:=an h7a T
   refine wA T (g:=?_)
   obtain⟨⟨v12,v13⟩,h8,hr⟩:=bs hr
   try dsimp only at hr
   apply TO.cal (wn T) rfl Wj (kF h8) rfl rfl rfl
   repeat exact sd T
   refine wa_ T (g:=?_)
   obtain⟨v14,h9,hr⟩:=bs hr
   apply TO.cal (wn T) rfl zR (dJ h9) rfl rfl rfl
   repeat exact sd T
   refine wc_ T (g:=?_)
   apply TX.vt (α:=(Int×Int)) e_ii 9 2 rfl
   repeat exact sd T
   with_reducible apply TX.here
   refine wa_ T (g:=?_)
   obtain⟨v74,h40,hr⟩:=bs hr
   refine TX.loopE (step:=eN v9 v12 v13 v14) (x:=(([]:List (Int×Int)),0)) h40 (fun (v15,v16)=>⟨.Z::.Z::.Z::.Z::.Z::.Z::.Z::.lsl 0 0 v9.length::.lptr 1 0 0::.lsl 2 0 v15.length::.Z::.Z::.Z::.Z::.Z::.Z::.Z::.Z::.Z::.Z::.Z::.Z::.Z::.Z::.Z::.Z::.Z::.Z::.Z::.Z::.Z::.lsl 3 0 v14.length::.v (.int .i64 (v14.length:Int))::.v (.int .i64 v16)::.Z::.Z::.Z::.Z::.Z::.Z::.Z::.Z::.Z::.Z::.Z::.Z::.Z::.Z::.Z::.Z::.Z::.Z::.Z::.Z::.Z::.Z::.Z::.Z::.Z::.Z::.Z::.Z::.Z::.Z::.Z::.Z::.Z::.Z::.Z::.Z::.Z::.Z::.Z::[],[.rows 2 (v9.map e_ii),.var [.v (.int .i64 v12),.v (.int .i64 v13)],.rows 2 (v15.map e_ii),.rows 2 (v14.map e_ii)]⟩) (fun v45=>(.exit 0,⟨.Z::.Z::.Z::.Z::.Z::.Z::.Z::.Z::.Z::.lsl 0 0 v45.length::.Z::.Z::.Z::.Z::.Z::.Z::.Z::.Z::.Z::.Z::.Z::.Z::.Z::.Z::.Z::.Z::.Z::.Z::.Z::.Z::.Z::.Z::.Z::.Z::.Z::.Z::.Z::.Z::.Z::.Z::.Z::.Z::.Z::.Z::.Z::.Z::.Z::.Z::.Z::.Z::.Z::.Z::.Z::.Z::.Z::.Z::.Z::.Z::.Z::.Z::.Z::.Z::.Z::.Z::.Z::.Z::.Z::.Z::.Z::.Z::.Z::.Z::.Z::[],[.rows 2 (v45.map e_ii)]⟩)) ?_ ?_ ?_ ?_
   ·rintro⟨v15,v16⟩ v0 hr
    dsimp only[eN] at hr
    try dsimp only
    refine wa_ T (g:=?_)
    rcases ifs hr with⟨h25,hr⟩|⟨h25,hr⟩
    ·have T:=an h25 T
     refine wa_ T (g:=?_)
     obtain⟨⟨v46,v47⟩,h26,hr⟩:=bs hr
     try dsimp only at hr
     have h26m:=jU (f:=e_ii) h26
     have h26l:=jQ h26
     try simp only[List.length_set] at h26l
     have h26a:=kL h26
     have T:=an h26m T
     have T:=an h26l T
     have T:=an h26a T
     refine wC T (g:=?_)
     apply TO.pop1 (wn T) (Hq rfl rfl)
     repeat exact sd T
     refine wa_ T (g:=?_)
     obtain⟨⟨v69,v70⟩,h37,hr⟩:=bs hr
     try dsimp only at hr
     refine TX.loopE (step:=eV v9 v15 v16) (x:=(v46,v47,(if (IntKind.i64.wrap ((IntKind.i64.wrap (v16+1))-(v9.length:Int)))>0 then (IntKind.i64.wrap ((IntKind.i64.wrap (v16+1))-(v9.length:Int))) else 0))) h37 (fun (v48,v49,v50)=>⟨.Z::.Z::.Z::.Z::.Z::.Z::.Z::.lsl 0 0 v9.length::.lptr 1 0 0::.lsl 2 0 v15.length::.v (.int .i64 v16)::.lptr 3 0 0::.v (.int .i64 v50)::.Z::.Z::.Z::.Z::.Z::.Z::.Z::.Z::.Z::.Z::.Z::.Z::.Z::.Z::.Z::.Z::.Z::.Z::.lsl 4 0 v14.length::.v (.int .i64 (v14.length:Int))::.v (.int .i64 v16)::.Z::.Z::.Z::.Z::.Z::.Z::.Z::.Z::.Z::.Z::.Z::.Z::.Z::.Z::.Z::.Z::.Z::.Z::.Z::.Z::.Z::.Z::.Z::.Z::.Z::.Z::.Z::.Z::.Z::.Z::.Z::.Z::.Z::.Z::.Z::.Z::.Z::.Z::.Z::[],[.rows 2 (v9.map e_ii),.var [.v (.int .i64 v12),.v (.int .i64 v13)],.rows 2 (v15.map e_ii),.var [.v (.int .i64 v48),.v (.int .i64 v49)],.rows 2 (v14.map e_ii)]⟩) (fun (v59,v60)=>(.exit 2,⟨.Z::.Z::.Z::.Z::.Z::.Z::.Z::.lsl 0 0 v9.length::.lptr 1 0 0::.lsl 2 0 v15.length::.Z::.lptr 3 0 0::.Z::.Z::.Z::.Z::.Z::.Z::.Z::.Z::.Z::.Z::.Z::.Z::.Z::.Z::.Z::.Z::.Z::.Z::.Z::.lsl 4 0 v14.length::.v (.int .i64 (v14.length:Int))::.v (.int .i64 v16)::.Z::.Z::.Z::.Z::.Z::.Z::.Z::.Z::.Z::.Z::.Z::.Z::.Z::.Z::.Z::.Z::.Z::.Z::.Z::.Z::.Z::.Z::.Z::.Z::.Z::.Z::.Z::.Z::.Z::.Z::.Z::.Z::.Z::.Z::.Z::.Z::.Z::.Z::.Z::[],[.rows 2 (v9.map e_ii),.var [.v (.int .i64 v12),.v (.int .i64 v13)],.rows 2 (v15.map e_ii),.var [.v (.int .i64 v59),.v (.int .i64 v60)],.rows 2 (v14.map e_ii)]⟩)) ?_ ?_ ?_ ?_
     ·rintro⟨v48,v49,v50⟩ v0 hr
      dsimp only[eV] at hr
      try dsimp only
      refine wa_ T (g:=?_)
      rcases ifs hr with⟨h32,hr⟩|⟨h32,hr⟩
      ·have T:=an h32 T
       refine wA T (g:=?_)
       obtain⟨⟨v61,v62⟩,h33,hr⟩:=bs hr
       try dsimp only at hr
       have T:=an (gx e_ii h33) T
       refine wA T (g:=?_)
       obtain⟨⟨v63,v64⟩,h34,hr⟩:=bs hr
       try dsimp only at hr
       have T:=an (gx e_ii h34) T
       refine wA T (g:=?_)
       obtain⟨⟨v65,v66⟩,h35,hr⟩:=bs hr
       try dsimp only at hr
       apply TD.cal (wn T) rfl Km (fH h35) rfl rfl rfl
       repeat exact sd T
       refine wa_ T (g:=?_)
       obtain⟨⟨v67,v68⟩,h36,hr⟩:=bs hr
       try dsimp only at hr
       apply TD.cal (wn T) rfl aAN (sJ h36) rfl rfl rfl
       repeat exact sd T
       refine wa_ T (g:=?_)
       cases hr
       refine⟨rfl,?_⟩
       exact wk_ T [some 0,some 1,some 2,some 3,some 4] rfl (.rows (rv (.rows (rv (.rows .nil rfl rfl) rfl) rfl rfl) rfl) rfl rfl)
      ·have T:=an h32 T
       refine wa_ T (g:=?_)
       cases hr
       refine⟨rfl,?_⟩
       exact wk_ T [some 0,some 1,some 2,some 3,some 4] rfl (.rows (rv (.rows (rv (.rows .nil rfl rfl) rfl) rfl rfl) rfl) rfl rfl)
     ·intro e h;cases h
     ·try dsimp only
      refine wA T (g:=?_)
      obtain⟨⟨v71,v72⟩,h38,hr⟩:=bs hr
      try dsimp only at hr
      apply TO.cal (wn T) rfl Km (fH h38) rfl rfl rfl
      repeat exact sd T
      refine wa_ T (g:=?_)
      apply TO.bm e_ii ([(v71,v72)]:List (Int×Int)) (wn T) rfl (by simp only[zz,y38,e_c,e_ii,Nat.reduceAdd,Nat.reduceMul,Nat.reduceLeDiff,Nat.reduceEqDiff,tslice,tparts,h5,h7m,h7l,h7a,h25,h26m,h26l,h26a];exact rfl) rfl
      repeat exact sd T
      refine wa_ T (g:=?_)
      obtain⟨v73,h39,hr⟩:=bs hr
      apply TO.ap (f:=e_ii) (xs:=v15) (ys:=([(v71,v72)]:List (Int×Int))) (wn T) rfl rfl (by first|rfl|simp only[List.length_set]) rfl rfl so79 ni79 zc91 rfl (by rw[by91];exact h39) (fun _=>⟨rfl,rfl,rfl⟩)
      repeat exact sd T
      refine wa_ T (g:=?_)
      cases hr
      refine⟨rfl,?_⟩
      exact wk_ T [some 0,some 1,some 2,some 4] rfl (.rows (rv (.rows (.rows .nil rfl rfl) rfl rfl) rfl) rfl rfl)
     ·try dsimp only
      exact wk_ T [some 0,some 1,some 2,some 4,some 3] rfl (.rows (rv (.rows (rv (.rows .nil rfl rfl) rfl) rfl rfl) rfl) rfl rfl)
    ·have T:=an h25 T
     refine wa_ T (g:=?_)
     cases hr
     refine⟨rfl,?_⟩
     exact wk_ T [some 2] rfl (.rows .nil rfl rfl)
   ·intro e h;cases h
   ·try dsimp only
    refine wa_ T (g:=?_)
    obtain⟨⟨v75,v76⟩,h41,hr⟩:=bs hr
    try dsimp only at hr
    apply TO.lok (wn T) rfl Cr (fT h41) (vw T) rfl rfl (by simp[oG,cl,e_i,e_c,e_ii])
    repeat exact sd T
    refine wa_ T (g:=?_)
    cases hr
    refine⟨.inr rfl,_,(ry T),?_⟩
    exact wk_ T [some 1] rfl (.rows .nil rfl rfl)
   ·try dsimp only
    exact wk_ T [some 0,some 1,some 3,some 2] rfl (.rows (rv (.rows (.rows .nil rfl rfl) rfl rfl) rfl) rfl rfl)
 rfl
end Go.Rex
namespace Go.Rex
open Go.Proofs
open Go Go.Rex Go.RowKit
set_option maxRecDepth 100000
set_option maxHeartbeats 200000
def y39:=an @by3 <| an @cs3 <| an @ni23 <| an @so23 <| @zc3
theorem wP{v1:(List Int)}{v2:(List Int)}(hr:lK v1=some (v2)):Spec (lim Try.prog) 44 [.list 1 (v1.map e_i)] ⟨[.lsl 0 0 v2.length],[.rows 1 (v2.map e_i)]⟩:=by
 unfold lK at hr
 have T:=an y39 <| @e_i.eq_1
 apply Spec.fn Try.func44 rfl
 focus (simp[Try.f44]<;>exact rfl)
 focus
  refine wa_ T (g:=?_)
  apply TO.bl e_i ([]:List Int) (wn T) rfl (by simp only[zz,y39,e_i,Nat.reduceAdd,Nat.reduceMul,Nat.reduceLeDiff,Nat.reduceEqDiff,tslice,tparts];exact rfl) rfl rfl
  repeat exact sd T
  refine wa_ T (g:=?_)
  obtain⟨v3,h1,hr⟩:=bs hr
  apply TO.ap (f:=e_i) (xs:=([]:List Int)) (ys:=v1) (wn T) rfl rfl (by first|rfl|simp only[List.length_set]) rfl rfl so23 ni23 zc3 rfl (by rw[by3];exact h1) (fun _=>⟨rfl,rfl,rfl⟩)
  repeat exact sd T
  refine wa_ T (g:=?_)
  cases hr
  refine⟨.inr rfl,_,(ry T),?_⟩
  exact wr [some 0] rfl (.rows .nil rfl rfl)
 rfl
def y40:=an @ag23 <| an @ag25 <| an @ag3 <| an @cs25 <| an @sL <| an @zV <| an @ok25 <| an @st25 <| @zc25
theorem sY{v1:Int}{v2:(List Int)}{v3:Int}{v4:(List Int)}(hr:jN v1 v2=some (v3,v4)):Spec (lim Try.prog) 13 [.agg [.v (.int .i64 v1),.list 1 (v2.map e_i)]] ⟨[.agg [.v (.int .i64 v3),.lsl 0 0 v4.length]],[.rows 1 (v4.map e_i)]⟩:=by
 unfold jN at hr
 have T:=an y40 <| @e_i.eq_1
 apply Spec.fn Try.func13 rfl
 focus (simp[Try.f13]<;>exact rfl)
 focus
  refine wB T (g:=?_)
  obtain⟨v5,h1,hr⟩:=bs hr
  apply TD.cal (wn T) rfl aBy (wP h1) rfl rfl rfl
  repeat exact sd T
  refine wa_ T (g:=?_)
  cases hr
  refine⟨.inr rfl,_,(ry T),?_⟩
  exact wr [some 1] rfl (.rows .nil rfl rfl)
 rfl
theorem jE{v1:Int}{v2:(List Int)}{v3:Int}{v4:Int}{v5:Int}{v6:(List Int)}(hr:bX v1 v2 v3=some (v4,v5,v6)):Spec (lim Try.prog) 33 [.agg [.v (.int .i64 v1),.list 1 (v2.map e_i)],.v (.int .i64 v3)] ⟨[.func 68 [] [.fptr true [.v (.int .i64 v4)] 0,.fptr true [.v (.int .i64 v5),.list 1 (v6.map e_i)] 0]],[]⟩:=by
 unfold bX at hr
 have T:=@e_i.eq_1
 apply Spec.fn Try.func33 rfl
 focus (simp[Try.f33]<;>exact rfl)
 focus
  refine wb_ T (g:=?_)
  cases hr
  refine⟨.inr rfl,_,(ry T),?_⟩
  exact wr [] rfl .nil
 rfl
theorem uQ{v1:Int}{v2:(List Int)}{v3:Int}{v4:Int}{v5:Int}{v6:(List Int)}{v7:Int}{v8:Int}(hr:lN v1 v2 v3 v4=some (v5,v6,v7,v8)):Spec (lim Try.prog) 64 [.v (.int .i64 v1),.func 102 [] [.fptr true [.list 1 (v2.map e_i)] 0,.fptr true [.v (.int .i64 v3)] 0,.fptr true [.v (.int .i64 v4)] 0]] ⟨[.func 87 [] [.fptr true [.v (.int .i64 v5)] 0,.fptr true [.func 102 [] [.fptr true [.list 1 (v6.map e_i)] 0,.fptr true [.v (.int .i64 v7)] 0,.fptr true [.v (.int .i64 v8)] 0]] 0]],[]⟩:=by
 unfold lN at hr
 have T:=@e_i.eq_1
 apply Spec.fn Try.func64 rfl
 focus (simp[Try.f64]<;>exact rfl)
 focus
  refine wb_ T (g:=?_)
  cases hr
  refine⟨.inr rfl,_,(ry T),?_⟩
  exact wr [] rfl .nil
 rfl
def y41:=an @ag23 <| @so23
theorem uR{v1:(List Int)}{v2:Int}{v3:Int}{v4:Int}{v5:(List Int)}{v6:Int}{v7:Int}(hr:lP v1 v2 v3=some (v4,v5,v6,v7)):Spec (lim Try.prog) 90 [.list 1 (v1.map e_i),.v (.int .i64 v2),.v (.int .i64 v3)] ⟨[.func 87 [] [.fptr true [.v (.int .i64 v4)] 0,.fptr true [.func 102 [] [.fptr true [.list 1 (v5.map e_i)] 0,.fptr true [.v (.int .i64 v6)] 0,.fptr true [.v (.int .i64 v7)] 0]] 0]],[]⟩:=by
 unfold lP at hr
 have T:=an y41 <| @e_i.eq_1
 apply Spec.fn Try.func90 rfl
 focus (simp[Try.f90]<;>exact rfl)
 focus
  refine wD T (g:=?_)
  obtain⟨⟨v8,v9,v10,v11⟩,h1,hr⟩:=bs hr
  try dsimp only at hr
  apply TO.cal (wn T) rfl Qd (uQ h1) rfl rfl rfl
  repeat exact sd T
  refine wa_ T (g:=?_)
  cases hr
  refine⟨.inr rfl,_,(ry T),?_⟩
  exact wr [] rfl .nil
 rfl
def y42:=an @ag3 <| an @cs3 <| an @ok3 <| an @so23 <| @bP
theorem qF{v1:(List Int)}{v2:Int}{v3:Int}(hr:iL v1 v2=some (v3)):Spec (lim Try.prog) 103 [.list 1 (v1.map e_i),.v (.int .i64 v2)] ⟨[.v (.int .i64 v3)],[]⟩:=by
 unfold iL at hr
 have T:=an y42 <| @e_i.eq_1
 apply Spec.fn Try.func103 rfl
 focus (simp[Try.f103]<;>exact rfl)
 focus
  refine wc_ T (g:=?_)
  obtain⟨v8,h7,hr⟩:=bs hr
  refine TX.loopE (step:=cC v1 v2) (x:=0) h7 (fun v4=>⟨.list 1 (v1.map e_i)::.v (.int .i64 v2)::.Z::.Z::.Z::.Z::.Z::.v (.int .i64 (v1.length:Int))::.v (.int .i64 v4)::.Z::.Z::.Z::.Z::.Z::.Z::.Z::.Z::.Z::.Z::[],[]⟩) (fun e=>match e with|(.inl v6)=>(.ret,⟨.Z::.Z::.Z::.Z::.v (.int .i64 v6)::.Z::.Z::.Z::.Z::.Z::.Z::.Z::.Z::.Z::.Z::.Z::.Z::.Z::.Z::[],[]⟩)|(.inr _)=>(.exit 0,⟨.Z::.Z::.Z::.Z::.Z::.Z::.Z::.Z::.Z::.Z::.Z::.Z::.Z::.Z::.Z::.Z::.Z::.Z::.Z::[],[]⟩)) ?_ ?_ ?_ ?_
  ·rintro v4 v0 hr
   dsimp only[cC] at hr
   try dsimp only
   refine wa_ T (g:=?_)
   rcases ifs hr with⟨h4,hr⟩|⟨h4,hr⟩
   ·have T:=an h4 T
    refine wa_ T (g:=?_)
    obtain⟨v7,h5,hr⟩:=bs hr
    have T:=an (gx e_i h5) T
    refine wA T (g:=?_)
    rcases ifs hr with⟨h6,hr⟩|⟨h6,hr⟩
    ·have T:=an h6 T
     refine wa_ T (g:=?_)
     cases hr
     refine⟨rfl,?_⟩
     exact wk_ T [] rfl .nil
    ·have T:=an h6 T
     refine wa_ T (g:=?_)
     cases hr
     refine⟨rfl,?_⟩
     exact wk_ T [] rfl .nil
   ·have T:=an h4 T
    refine wa_ T (g:=?_)
    cases hr
    refine⟨rfl,?_⟩
    exact wk_ T [] rfl .nil
  ·intro e h;rcases e with _|e<;>cases h
  ·try dsimp only
   rcases v8 with v9|_
   ·try dsimp only at hr
    try dsimp only
    refine wa_ T (g:=?_)
    cases hr
    refine⟨.inr rfl,_,(ry T),?_⟩
    exact wr [] rfl .nil
   ·try dsimp only at hr
    try dsimp only
    refine wa_ T (g:=?_)
    cases hr
    refine⟨.inr rfl,_,(ry T),?_⟩
    exact wr [] rfl .nil
  ·try dsimp only
   exact wr [] rfl .nil
 rfl
theorem oF{v1:(List Int)}{v2:Int}{v3:Bool}(hr:dH v1 v2=some (v3)):Spec (lim Try.prog) 91 [.list 1 (v1.map e_i),.v (.int .i64 v2)] ⟨[.v (.bool v3)],[]⟩:=by
 unfold dH at hr
 have T:=@e_i.eq_1
 apply Spec.fn Try.func91 rfl
 focus (simp[Try.f91]<;>exact rfl)
 focus
  refine wa_ T (g:=?_)
  obtain⟨v4,h1,hr⟩:=bs hr
  apply TO.cal (wn T) rfl aAk (qF h1) rfl rfl rfl
  repeat exact sd T
  refine wa_ T (g:=?_)
  cases hr
  refine⟨.inr rfl,_,(ry T),?_⟩
  exact wr [] rfl .nil
 rfl
def y43:=an @ag23 <| an @ag3 <| an @cs3 <| an @cs64 <| an @ok3 <| an @so23 <| an @so99 <| @zc64
theorem oJ{v1:Int}{v2:(List Int)}{v3:Int}{v4:Int}{v5:Int}(hr:dG v1 v2 v3 v4=some (v5)):Spec (lim Try.prog) 102 [.v (.int .i64 v1),.fptr true [.list 1 (v2.map e_i)] 0,.fptr true [.v (.int .i64 v3)] 0,.fptr true [.v (.int .i64 v4)] 0] ⟨[.v (.int .i64 v5)],[]⟩:=by
 unfold dG at hr
 have T:=an y43 <| @e_i.eq_1
 apply Spec.fn Try.func102 rfl
 focus (simp[Try.f102]<;>exact rfl)
 focus
  refine wA T (g:=?_)
  obtain⟨v6,h1,hr⟩:=bs hr
  have T:=an (gx e_i h1) T
  refine wA T (g:=?_)
  obtain⟨⟨v7,v8⟩,h2,hr⟩:=bs hr
  try dsimp only at hr
  apply TD.cal (wn T) rfl Ee (iJ h2) rfl rfl rfl
  repeat exact sd T
  refine wa_ T (g:=?_)
  rcases ifs hr with⟨h3,hr⟩|⟨h3,hr⟩
  ·have T:=an h3 T
   refine wA T (g:=?_)
   obtain⟨v9,h4,hr⟩:=bs hr
   have T:=an (gx e_i h4) T
   refine wA T (g:=?_)
   obtain⟨⟨v10,v11⟩,h5,hr⟩:=bs hr
   try dsimp only at hr
   apply TD.cal (wn T) rfl iX (aF h5) rfl rfl rfl
   repeat exact sd T
   refine we_ T (g:=?_)
   obtain⟨v12,h6,hr⟩:=bs hr
   apply TD.cal (wn T) rfl nJ (aZ h6) rfl rfl rfl
   repeat exact sd T
   refine wa_ T (g:=?_)
   cases hr
   refine⟨.inr rfl,_,(ry T),?_⟩
   exact wk_ T [] rfl .nil
  ·have T:=an h3 T
   refine wa_ T (g:=?_)
   obtain⟨⟨v13,v14⟩,h7,hr⟩:=bs hr
   try dsimp only at hr
   apply TD.cal (wn T) rfl iX (aF h7) rfl rfl rfl
   repeat exact sd T
   refine we_ T (g:=?_)
   obtain⟨v15,h8,hr⟩:=bs hr
   apply TD.cal (wn T) rfl nJ (aZ h8) rfl rfl rfl
   repeat exact sd T
   refine wa_ T (g:=?_)
   cases hr
   refine⟨.inr rfl,_,(ry T),?_⟩
   exact wk_ T [] rfl .nil
 rfl
def y44:=an @ag102 <| an @ag3 <| @bP
theorem rD{v1:Int}{v2:(List Int)}{v3:Int}{v4:Int}{v5:Int}(hr:jJ v1 v2 v3 v4=some (v5)):Spec (lim Try.prog) 87 [.fptr true [.v (.int .i64 v1)] 0,.fptr true [.func 102 [] [.fptr true [.list 1 (v2.map e_i)] 0,.fptr true [.v (.int .i64 v3)] 0,.fptr true [.v (.int .i64 v4)] 0]] 0] ⟨[.v (.int .i64 v5)],[]⟩:=by
 unfold jJ at hr
 have T:=an y44 <| @e_i.eq_1
 apply Spec.fn Try.func87 rfl
 focus (simp[Try.f87]<;>exact rfl)
 focus
  refine wA T (g:=?_)
  obtain⟨v10,h7,hr⟩:=bs hr
  refine TX.loopE (step:=cZ v1 v2 v3 v4) (x:=0) h7 (fun v6=>⟨.Z::.fptr true [.func 102 [] [.fptr true [.list 1 (v2.map e_i)] 0,.fptr true [.v (.int .i64 v3)] 0,.fptr true [.v (.int .i64 v4)] 0]] 0::.Z::.Z::.Z::.v (.int .i64 v1)::.v (.int .i64 v6)::.Z::.Z::.Z::.Z::.Z::.Z::.Z::.Z::.Z::[],[]⟩) (fun e=>match e with|(.inl v8)=>(.ret,⟨.Z::.Z::.v (.int .i64 v8)::.Z::.Z::.Z::.Z::.Z::.Z::.Z::.Z::.Z::.Z::.Z::.Z::.Z::[],[]⟩)|(.inr _)=>(.exit 0,⟨.Z::.Z::.Z::.Z::.Z::.Z::.Z::.Z::.Z::.Z::.Z::.Z::.Z::.Z::.Z::.Z::[],[]⟩)) ?_ ?_ ?_ ?_
  ·rintro v6 v0 hr
   dsimp only[cZ] at hr
   try dsimp only
   refine wa_ T (g:=?_)
   rcases ifs hr with⟨h4,hr⟩|⟨h4,hr⟩
   ·have T:=an h4 T
    refine wA T (g:=?_)
    obtain⟨v9,h5,hr⟩:=bs hr
    apply TO.cal (wn T) rfl Zb (oJ h5) rfl rfl rfl
    repeat exact sd T
    refine wa_ T (g:=?_)
    rcases ifs hr with⟨h6,hr⟩|⟨h6,hr⟩
    ·have T:=an h6 T
     refine wa_ T (g:=?_)
     cases hr
     refine⟨rfl,?_⟩
     exact wk_ T [] rfl .nil
    ·have T:=an h6 T
     refine wa_ T (g:=?_)
     cases hr
     refine⟨rfl,?_⟩
     exact wk_ T [] rfl .nil
   ·have T:=an h4 T
    refine wa_ T (g:=?_)
    cases hr
    refine⟨rfl,?_⟩
    exact wk_ T [] rfl .nil
  ·intro e h;rcases e with _|e<;>cases h
  ·try dsimp only
   rcases v10 with v11|_
   ·try dsimp only at hr
    try dsimp only
    refine wa_ T (g:=?_)
    cases hr
    refine⟨.inr rfl,_,(ry T),?_⟩
    exact wr [] rfl .nil
   ·try dsimp only at hr
    try dsimp only
    refine wa_ T (g:=?_)
    cases hr
    refine⟨.inr rfl,_,(ry T),?_⟩
    exact wr [] rfl .nil
  ·try dsimp only
   exact wr [] rfl .nil
 rfl
end Go.Rex
namespace Go.Rex
open Go.Proofs
open Go Go.Rex Go.RowKit
set_option maxRecDepth 100000
set_option maxHeartbeats 1000000
def y45:=an @ag64 <| an @cs64 <| an @ok64 <| an @so99 <| an @bP <| an @mX <| an @rX <| @Ld
theorem pJ{v1:Bool}{v2:Int}{v3:Bool}{v4:Int}{v5:Int}{v6:(List Int)}{v7:Int}{v8:Int}{v9:Bool}{v10:Int}{v11:Int}(hr:gZ v1 v2 v3 v4 v5 v6 v7 v8 v9 v10=some (v11)):Spec (lim Try.prog) 26 [.list 1 [[.func 70 [] [.fptr true [.v (.bool v1)] 0,.fptr true [.v (.int .i64 v2)] 0]],[.func 70 [] [.fptr true [.v (.bool v3)] 0,.fptr true [.v (.int .i64 v4)] 0]],[.func 87 [] [.fptr true [.v (.int .i64 v5)] 0,.fptr true [.func 102 [] [.fptr true [.list 1 (v6.map e_i)] 0,.fptr true [.v (.int .i64 v7)] 0,.fptr true [.v (.int .i64 v8)] 0]] 0]],[.func 70 [] [.fptr true [.v (.bool v9)] 0,.fptr true [.v (.int .i64 v10)] 0]]]] ⟨[.v (.int .i64 v11)],[]⟩:=by
 unfold gZ at hr
 have T:=an y45 <| @e_i.eq_1
 apply Spec.fn Try.func26 rfl
 focus (simp[Try.f26]<;>exact rfl)
 focus
  refine wc_ T (g:=?_)
  refine TX.unroll ?_
  repeat (first|(with_reducible first|refine mv ?_|refine m12 rfl ?_|refine TO.nil ?_)|((with_reducible first|apply TO.bin|apply TO.ia|apply TO.ld|apply TO.asg|apply TO.mv);(repeat (focus (show _=_;first|exact k1 rfl|exact k2 rfl|(simp only[zz,y45,e_i,Nat.reduceAdd,Nat.reduceMul,Nat.reduceLeDiff,Nat.reduceEqDiff,aB,z5,Int.reduceToNat,Int.reduceLE,Int.reduceLT,Int.cast_ofNat_Int,tload,bD,bC,List.getElem?_map]<;>exact rfl)|exact rfl)));(with_reducible apply TO.here))|((with_reducible apply TX.region);(focus (simp only[zl]<;>exact rfl));(focus rfl);(try dsimp only))|((with_reducible apply TX.cond_true);(focus rfl);(focus (first|rfl|(simp only[z1,zn];done))))|((with_reducible apply TX.cond_false);(focus rfl);(focus (first|rfl|(simp only[z1,zn];done))))|fail)
  obtain⟨v12,h1,hr⟩:=bs hr
  apply TO.cal (wn T) rfl nD (aD h1) rfl rfl rfl
  repeat exact sd T
  refine wa_ T (g:=?_)
  rcases ifs hr with⟨h2,hr⟩|⟨h2,hr⟩
  ·have T:=an h2 T
   refine wa_ T (g:=?_)
   cases hr
   refine⟨.inr rfl,_,(ry T),?_⟩
   exact wk_ T [] rfl .nil
  ·have T:=an h2 T
   refine wa_ T (g:=?_)
   refine TX.unroll ?_
   repeat (first|(with_reducible first|refine mv ?_|refine m12 rfl ?_|refine TO.nil ?_)|((with_reducible first|apply TO.bin|apply TO.ia|apply TO.ld|apply TO.asg|apply TO.mv);(repeat (focus (show _=_;first|exact k1 rfl|exact k2 rfl|(simp only[zz,y45,e_i,Nat.reduceAdd,Nat.reduceMul,Nat.reduceLeDiff,Nat.reduceEqDiff,aB,z5,Int.reduceToNat,Int.reduceLE,Int.reduceLT,Int.cast_ofNat_Int,tload,bD,bC,List.getElem?_map,h2]<;>exact rfl)|exact rfl)));(with_reducible apply TO.here))|((with_reducible apply TX.region);(focus (simp only[zl]<;>exact rfl));(focus rfl);(try dsimp only))|((with_reducible apply TX.cond_true);(focus rfl);(focus (first|rfl|(simp only[z1,zn,h2];done))))|((with_reducible apply TX.cond_false);(focus rfl);(focus (first|rfl|(simp only[z1,zn,h2];done))))|fail)
   obtain⟨v13,h3,hr⟩:=bs hr
   apply TO.cal (wn T) rfl nD (aD h3) rfl rfl rfl
   repeat exact sd T
   refine wa_ T (g:=?_)
   rcases ifs hr with⟨h4,hr⟩|⟨h4,hr⟩
   ·have T:=an h4 T
    refine wa_ T (g:=?_)
    cases hr
    refine⟨.inr rfl,_,(ry T),?_⟩
    exact wk_ T [] rfl .nil
   ·have T:=an h4 T
    refine wa_ T (g:=?_)
    refine TX.unroll ?_
    repeat (first|(with_reducible first|refine mv ?_|refine m12 rfl ?_|refine TO.nil ?_)|((with_reducible first|apply TO.bin|apply TO.ia|apply TO.ld|apply TO.asg|apply TO.mv);(repeat (focus (show _=_;first|exact k1 rfl|exact k2 rfl|(simp only[zz,y45,e_i,Nat.reduceAdd,Nat.reduceMul,Nat.reduceLeDiff,Nat.reduceEqDiff,aB,z5,Int.reduceToNat,Int.reduceLE,Int.reduceLT,Int.cast_ofNat_Int,tload,bD,bC,List.getElem?_map,h2,h4]<;>exact rfl)|exact rfl)));(with_reducible apply TO.here))|((with_reducible apply TX.region);(focus (simp only[zl]<;>exact rfl));(focus rfl);(try dsimp only))|((with_reducible apply TX.cond_true);(focus rfl);(focus (first|rfl|(simp only[z1,zn,h2,h4];done))))|((with_reducible apply TX.cond_false);(focus rfl);(focus (first|rfl|(simp only[z1,zn,h2,h4];done))))|fail)
    obtain⟨v14,h5,hr⟩:=bs hr
    apply TO.cal (wn T) rfl Pf (rD h5) rfl rfl rfl
    repeat exact sd T
    refine wa_ T (g:=?_)
    rcases ifs hr with⟨h6,hr⟩|⟨h6,hr⟩
    ·have T:=an h6 T
     refine wa_ T (g:=?_)
     cases hr
     refine⟨.inr rfl,_,(ry T),?_⟩
     exact wk_ T [] rfl .nil
    ·have T:=an h6 T
     refine wa_ T (g:=?_)
     refine TX.unroll ?_
     repeat (first|(with_reducible first|refine mv ?_|refine m12 rfl ?_|refine TO.nil ?_)|((with_reducible first|apply TO.bin|apply TO.ia|apply TO.ld|apply TO.asg|apply TO.mv);(repeat (focus (show _=_;first|exact k1 rfl|exact k2 rfl|(simp only[zz,y45,e_i,Nat.reduceAdd,Nat.reduceMul,Nat.reduceLeDiff,Nat.reduceEqDiff,aB,z5,Int.reduceToNat,Int.reduceLE,Int.reduceLT,Int.cast_ofNat_Int,tload,bD,bC,List.getElem?_map,h2,h4,h6]<;>exact rfl)|exact rfl)));(with_reducible apply TO.here))|((with_reducible apply TX.region);(focus (simp only[zl]<;>exact rfl));(focus rfl);(try dsimp only))|((with_reducible apply TX.cond_true);(focus rfl);(focus (first|rfl|(simp only[z1,zn,h2,h4,h6];done))))|((with_reducible apply TX.cond_false);(focus rfl);(focus (first|rfl|(simp only[z1,zn,h2,h4,h6];done))))|fail)
     obtain⟨v15,h7,hr⟩:=bs hr
     apply TO.cal (wn T) rfl nD (aD h7) rfl rfl rfl
     repeat exact sd T
     refine wa_ T (g:=?_)
     rcases ifs hr with⟨h8,hr⟩|⟨h8,hr⟩
     ·have T:=an h8 T
      refine wa_ T (g:=?_)
      cases hr
      refine⟨.inr rfl,_,(ry T),?_⟩
      exact wk_ T [] rfl .nil
     ·have T:=an h8 T
      refine wa_ T (g:=?_)
      refine TX.unroll ?_
      refine wa_ T (g:=?_)
      cases hr
      refine⟨.inr rfl,_,(ry T),?_⟩
      exact wk_ T [] rfl .nil
 rfl
end Go.Rex
namespace Go.Rex
open Go.Proofs
open Go Go.Rex Go.RowKit
set_option maxRecDepth 100000
set_option maxHeartbeats 200000
def y46:=an @ag23 <| an @ag3 <| an @cs64 <| an @sL <| an @zV <| an @so23 <| an @so99 <| @zc64
theorem qY{v1:Int}{v2:(List Int)}{v3:Int}(hr:fX v1 v2=some (v3)):Spec (lim Try.prog) 67 [.agg [.v (.int .i64 v1),.list 1 (v2.map e_i)]] ⟨[.v (.int .i64 v3)],[]⟩:=by
 unfold fX at hr
 have T:=an y46 <| @e_i.eq_1
 apply Spec.fn Try.func67 rfl
 focus (simp[Try.f67]<;>exact rfl)
 focus
  refine wB T (g:=?_)
  obtain⟨⟨v4,v5⟩,h1,hr⟩:=bs hr
  try dsimp only at hr
  apply TD.cal (wn T) rfl Ee (iJ h1) rfl rfl rfl
  repeat exact sd T
  refine wC T (g:=?_)
  obtain⟨⟨v6,v7⟩,h2,hr⟩:=bs hr
  try dsimp only at hr
  apply TD.cal (wn T) rfl iX (aF h2) rfl rfl rfl
  repeat exact sd T
  refine wA T (g:=?_)
  obtain⟨⟨v8,v9,v10,v11⟩,h3,hr⟩:=bs hr
  try dsimp only at hr
  apply TD.cal (wn T) rfl aAJ (uR h3) rfl rfl rfl
  repeat exact sd T
  refine wA T (g:=?_)
  obtain⟨v12,h4,hr⟩:=bs hr
  apply TD.cal (wn T) rfl aAB (oF h4) rfl rfl rfl
  repeat exact sd T
  refine wa_ T (g:=?_)
  apply TD.pop1 (wn T) (eB rfl)
  repeat exact sd T
  refine wa_ T (g:=?_)
  obtain⟨⟨v13,v14⟩,h5,hr⟩:=bs hr
  try dsimp only at hr
  apply TD.cal (wn T) rfl iX (aF h5) rfl rfl rfl
  repeat exact sd T
  refine we_ T (g:=?_)
  obtain⟨v15,h6,hr⟩:=bs hr
  apply TD.cal (wn T) rfl nJ (pJ h6) rfl rfl rfl
  repeat exact sd T
  refine wa_ T (g:=?_)
  cases hr
  refine⟨.inr rfl,_,(ry T),?_⟩
  exact wr [] rfl .nil
 rfl
def y47:=an @ag25 <| an @cs25 <| an @Ny <| @ok25
theorem kY{v1:Int}{v2:(List Int)}{v3:Int}(hr:dA v1 v2=some (v3)):Spec (lim Try.prog) 32 [.agg [.v (.int .i64 v1),.list 1 (v2.map e_i)]] ⟨[.v (.int .i64 v3)],[]⟩:=by
 unfold dA at hr
 have T:=an y47 <| @e_i.eq_1
 apply Spec.fn Try.func32 rfl
 focus (simp[Try.f32]<;>exact rfl)
 focus
  refine wB T (g:=?_)
  obtain⟨v4,h1,hr⟩:=bs hr
  apply TO.cal (wn T) rfl aA8 (qY h1) rfl rfl rfl
  repeat exact sd T
  refine wa_ T (g:=?_)
  cases hr
  refine⟨.inr rfl,_,(ry T),?_⟩
  exact wr [] rfl .nil
 rfl
def y48:=an @ag3 <| an @sL <| @Ny
theorem aW{v1:Int}{v2:(List Int)}{v3:Int}(hr:aG v1 v2=some (v3)):Spec (lim Try.prog) 37 [.agg [.v (.int .i64 v1),.list 1 (v2.map e_i)]] ⟨[.v (.int .i64 v3)],[]⟩:=by
 unfold aG at hr
 have T:=an y48 <| @e_i.eq_1
 apply Spec.fn Try.func37 rfl
 focus (simp[Try.f37]<;>exact rfl)
 focus
  refine wB T (g:=?_)
  obtain⟨v4,h1,hr⟩:=bs hr
  apply TO.pop1 (wn T) (uZ rfl rfl (by decide) (h1))
  repeat exact sd T
  refine wa_ T (g:=?_)
  cases hr
  refine⟨.inr rfl,_,(ry T),?_⟩
  exact wr [] rfl .nil
 rfl
end Go.Rex
