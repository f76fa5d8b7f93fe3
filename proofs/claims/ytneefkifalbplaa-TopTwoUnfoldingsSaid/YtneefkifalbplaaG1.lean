/- Proofs that the program's functions do what these plain functions say. -/
import Derived.Test.YtneefkifalbplaaGB
import Derived.Test.YtneefkifalbplaaS
set_option linter.unusedSimpArgs false
set_option linter.unusedVariables false
set_option linter.defProp false
namespace Go.Rex
open Go.Proofs
open Go Go.Rex Go.RowKit
set_option maxRecDepth 100000
set_option maxHeartbeats 200000
theorem gG{v1:Int}{v2:Int}{v3:Int}{v4:Bool}(hr:eS v1 v2 v3=some (v4)):Spec (lim Try.prog) 7 [.v (.int .i64 v1),.v (.int .i64 v2),.v (.int .i64 v3)] ⟨[.v (.bool v4)],[]⟩:=by
 unfold eS at hr
 have T:=trivial
 apply Spec.fn Try.func7 rfl
 focus (simp[Try.f7]<;>exact rfl)
 focus
  refine wa_ T (g:=?_)
  rcases ifs hr with⟨h1,hr⟩|⟨h1,hr⟩
  ·have T:=an h1 T
   refine wa_ T (g:=?_)
   cases hr
   refine⟨.inr rfl,_,(ry T),?_⟩
   exact wk_ T [] rfl .nil
  ·have T:=an h1 T
   refine wa_ T (g:=?_)
   cases hr
   refine⟨.inr rfl,_,(ry T),?_⟩
   exact wk_ T [] rfl .nil
 rfl
end Go.Rex
namespace Go.Rex
open Go.Proofs
open Go Go.Rex Go.RowKit
set_option maxRecDepth 100000
set_option maxHeartbeats 1000000
def y1:=an @ag23 <| an @ag3 <| an @cs3 <| an @tM <| an @Aq <| an @ok3 <| an @so23 <| @bF
theorem rJ{v1:Int}{v2:(List Int)}{v3:Int}(hr:gA v1 v2=some (v3)):Spec (lim Try.prog) 50 [.agg [.v (.int .i64 v1),.list 1 (v2.map e_i)]] ⟨[.v (.int .i64 v3)],[]⟩:=by
 unfold gA at hr
 have T:=an y1 <| @e_i.eq_1
 apply Spec.fn Try.func50 rfl
 focus (simp[Try.f50]<;>exact rfl)
 focus
  refine wB T (g:=?_)
  obtain⟨v4,h1,hr⟩:=bs hr
  apply TO.cal (wn T) rfl Hg (gG h1) rfl rfl rfl
  repeat exact sd T
  refine wa_ T (g:=?_)
  apply TO.pop1 (wn T) (dM rfl)
  repeat exact sd T
  refine wa_ T (g:=?_)
  rcases ifs hr with⟨h2,hr⟩|⟨h2,hr⟩
  ·have T:=an h2 T
   refine wC T (g:=?_)
   rcases ifs hr with⟨h3,hr⟩|⟨h3,hr⟩
   ·have T:=an h3 T
    refine wa_ T (g:=?_)
    cases hr
    refine⟨.inr rfl,_,(ry T),?_⟩
    exact wk_ T [] rfl .nil
   ·have T:=an h3 T
    refine wa_ T (g:=?_)
    obtain⟨v13,h18,hr⟩:=bs hr
    refine TX.loopE (step:=cS v1 v2) (x:=0) h18 (fun v5=>⟨.U::.fptr true [.v (.int .i64 v1),.list 1 (v2.map e_i)] 0::.U::.v (.int .i64 v5)::.U::.U::.U::.U::.U::.U::.U::.U::.U::.U::.U::.U::.U::.U::.U::.U::.U::.U::.U::.U::.U::.U::.U::.U::.U::.U::.U::.U::.U::.U::.U::.U::.U::.U::.U::.U::.U::.U::.U::.U::.U::.U::.U::.U::.U::.U::.U::.U::.U::.U::.U::[],[]⟩) (fun e=>match e with|(.inl v9)=>(.ret,⟨.U::.U::.v (.int .i64 v9)::.U::.U::.U::.U::.U::.U::.U::.U::.U::.U::.U::.U::.U::.U::.U::.U::.U::.U::.U::.U::.U::.U::.U::.U::.U::.U::.U::.U::.U::.U::.U::.U::.U::.U::.U::.U::.U::.U::.U::.U::.U::.U::.U::.U::.U::.U::.U::.U::.U::.U::.U::.U::[],[]⟩)|(.inr _)=>(.exit 0,⟨.U::.fptr true [.v (.int .i64 v1),.list 1 (v2.map e_i)] 0::.U::.U::.U::.U::.U::.U::.U::.U::.U::.U::.U::.U::.U::.U::.U::.U::.U::.U::.U::.U::.U::.U::.U::.U::.U::.U::.U::.U::.U::.U::.U::.U::.U::.U::.U::.U::.U::.U::.U::.U::.U::.U::.U::.U::.U::.U::.U::.U::.U::.U::.U::.U::.U::[],[]⟩)) ?_ ?_ ?_ ?_
    ·rintro v5 v0 hr
     dsimp only[cS] at hr
     try dsimp only
     refine wC T (g:=?_)
     rcases ifs hr with⟨h11,hr⟩|⟨h11,hr⟩
     ·have T:=an h11 T
      refine wA T (g:=?_)
      obtain⟨v10,h12,hr⟩:=bs hr
      have T:=an (gx e_i h12) T
      refine wA T (g:=?_)
      obtain⟨v11,h13,hr⟩:=bs hr
      apply TD.cal (wn T) rfl Hg (gG h13) rfl rfl rfl
      repeat exact sd T
      refine wa_ T (g:=?_)
      apply TD.pop1 (wn T) (dM rfl)
      repeat exact sd T
      refine wa_ T (g:=?_)
      rcases ifs hr with⟨h14,hr⟩|⟨h14,hr⟩
      ·have T:=an h14 T
       refine wa_ T (g:=?_)
       rcases ifs hr with⟨h15,hr⟩|⟨h15,hr⟩
       ·have T:=an h15 T
        refine wA T (g:=?_)
        obtain⟨v12,h16,hr⟩:=bs hr
        have T:=an (gx e_i h16) T
        refine wA T (g:=?_)
        rcases ifs hr with⟨h17,hr⟩|⟨h17,hr⟩
        ·have T:=an h17 T
         refine wa_ T (g:=?_)
         cases hr
         refine⟨rfl,?_⟩
         exact wk_ T [] rfl .nil
        ·have T:=an h17 T
         refine wa_ T (g:=?_)
         cases hr
         refine⟨rfl,?_⟩
         exact wk_ T [] rfl .nil
       ·have T:=an h15 T
        refine wa_ T (g:=?_)
        cases hr
        refine⟨rfl,?_⟩
        exact wk_ T [] rfl .nil
      ·have T:=an h14 T
       refine wa_ T (g:=?_)
       cases hr
       refine⟨rfl,?_⟩
       exact wk_ T [] rfl .nil
     ·have T:=an h11 T
      refine wa_ T (g:=?_)
      cases hr
      refine⟨rfl,?_⟩
      exact wk_ T [] rfl .nil
    ·intro e h;rcases e with _|e<;>cases h
    ·try dsimp only
     rcases v13 with v14|_
     ·try dsimp only at hr
      try dsimp only
      refine wa_ T (g:=?_)
      cases hr
      refine⟨.inr rfl,_,(ry T),?_⟩
      exact wk_ T [] rfl .nil
     ·try dsimp only at hr
      try dsimp only
      refine wC T (g:=?_)
      obtain⟨v15,h19,hr⟩:=bs hr
      have T:=an (gx e_i h19) T
      refine wA T (g:=?_)
      rcases ifs hr with⟨h20,hr⟩|⟨h20,hr⟩
      ·have T:=an h20 T
       refine wa_ T (g:=?_)
       cases hr
       refine⟨.inr rfl,_,(ry T),?_⟩
       exact wk_ T [] rfl .nil
      ·have T:=an h20 T
       refine wa_ T (g:=?_)
       cases hr
       refine⟨.inr rfl,_,(ry T),?_⟩
       exact wk_ T [] rfl .nil
    ·try dsimp only
     exact wk_ T [] rfl .nil
  ·have T:=an h2 T
   refine wa_ T (g:=?_)
   cases hr
   refine⟨.inr rfl,_,(ry T),?_⟩
   exact wk_ T [] rfl .nil
 rfl
end Go.Rex
namespace Go.Rex
open Go.Proofs
open Go Go.Rex Go.RowKit
set_option maxRecDepth 100000
set_option maxHeartbeats 200000
def y2:=an @ag3 <| an @tM <| an @bF <| @Xe
theorem pG{v1:Int}{v2:(List Int)}{v3:Int}(hr:mP v1 v2=some (v3)):Spec (lim Try.prog) 6 [.agg [.v (.int .i64 v1),.list 1 (v2.map e_i)]] ⟨[.v (.int .i64 v3)],[]⟩:=by
 unfold mP at hr
 have T:=an y2 <| @e_i.eq_1
 apply Spec.fn Try.func6 rfl
 focus (simp[Try.f6]<;>exact rfl)
 focus
  refine wb_ T (g:=?_)
  obtain⟨v7,h3,hr⟩:=bs hr
  refine TX.loopE (step:=kJ v1) (x:=(1,0)) h3 (fun (v4,v5)=>⟨.U::.fptr true [.v (.int .i64 v1),.list 1 (v2.map e_i)] 0::.U::.v (.int .i64 v4)::.v (.int .i64 v5)::.U::.U::.U::.U::.U::.U::.U::.U::.U::.U::[],[]⟩) (fun v6=>(.exit 0,⟨.U::.U::.U::.v (.int .i64 v6)::.U::.U::.U::.U::.U::.U::.U::.U::.U::.U::.U::[],[]⟩)) ?_ ?_ ?_ ?_
  ·rintro⟨v4,v5⟩ v0 hr
   dsimp only[kJ] at hr
   try dsimp only
   refine wA T (g:=?_)
   rcases ifs hr with⟨h2,hr⟩|⟨h2,hr⟩
   ·have T:=an h2 T
    refine wa_ T (g:=?_)
    cases hr
    refine⟨rfl,?_⟩
    exact wk_ T [] rfl .nil
   ·have T:=an h2 T
    refine wa_ T (g:=?_)
    cases hr
    refine⟨rfl,?_⟩
    exact wk_ T [] rfl .nil
  ·intro e h;cases h
  ·try dsimp only
   refine wa_ T (g:=?_)
   cases hr
   refine⟨.inr rfl,_,(ry T),?_⟩
   exact wr [] rfl .nil
  ·try dsimp only
   exact wr [] rfl .nil
 rfl
def y3:=an @ag25 <| an @cs25 <| @ok25
theorem vZ{v1:Int}{v2:(List Int)}{v3:Int}{v4:Int}(hr:gU v1 v2 v3=some (v4)):Spec (lim Try.prog) 19 [.agg [.v (.int .i64 v1),.list 1 (v2.map e_i)],.v (.int .i64 v3)] ⟨[.v (.int .i64 v4)],[]⟩:=by
 unfold gU at hr
 have T:=an y3 <| @e_i.eq_1
 apply Spec.fn Try.func19 rfl
 focus (simp[Try.f19]<;>exact rfl)
 focus
  refine wB T (g:=?_)
  obtain⟨v5,h1,hr⟩:=bs hr
  apply TO.cal (wn T) rfl aCv (rJ h1) rfl rfl rfl
  repeat exact sd T
  refine wa_ T (g:=?_)
  rcases ifs hr with⟨h2,hr⟩|⟨h2,hr⟩
  ·have T:=an h2 T
   refine wa_ T (g:=?_)
   cases hr
   refine⟨.inr rfl,_,(ry T),?_⟩
   exact wk_ T [] rfl .nil
  ·have T:=an h2 T
   refine wA T (g:=?_)
   obtain⟨v6,h3,hr⟩:=bs hr
   apply TO.cal (wn T) rfl Zt (pG h3) rfl rfl rfl
   repeat exact sd T
   refine wa_ T (g:=?_)
   obtain⟨v7,h4,hr⟩:=bs hr
   apply TO.cal (wn T) rfl Hg (gG h4) rfl rfl rfl
   repeat exact sd T
   refine wa_ T (g:=?_)
   apply TO.pop1 (wn T) (dM rfl)
   repeat exact sd T
   refine wa_ T (g:=?_)
   rcases ifs hr with⟨h5,hr⟩|⟨h5,hr⟩
   ·have T:=an h5 T
    refine wa_ T (g:=?_)
    cases hr
    refine⟨.inr rfl,_,(ry T),?_⟩
    exact wk_ T [] rfl .nil
   ·have T:=an h5 T
    refine wa_ T (g:=?_)
    cases hr
    refine⟨.inr rfl,_,(ry T),?_⟩
    exact wk_ T [] rfl .nil
 rfl
end Go.Rex
namespace Go.Rex
open Go.Proofs
open Go Go.Rex Go.RowKit
set_option maxRecDepth 100000
set_option maxHeartbeats 1000000
def y4:=an @ag23 <| an @ag3 <| an @by3 <| an @cs3 <| an @tM <| an @Aq <| an @ni23 <| an @ok3 <| an @so23 <| an @zc3 <| @bF
theorem Cf{v1:Int}{v2:(List Int)}{v3:Int}{v4:Int}{v5:(List Int)}(hr:qN v1 v2 v3 v4=some (v5)):Spec (lim Try.prog) 89 [.agg [.v (.int .i64 v1),.list 1 (v2.map e_i)],.v (.int .i64 v3),.v (.int .i64 v4)] ⟨[.lsl 0 0 v5.length],[.rows 1 (v5.map e_i)]⟩:=by
 unfold qN at hr
 have T:=an y4 <| @e_i.eq_1
 apply Spec.fn Try.func89 rfl
 focus (simp[Try.f89]<;>exact rfl)
 focus
  refine wb_ T (g:=?_)
  apply TX.vt (α:=Int) e_i 7 1 rfl
  repeat exact sd T
  with_reducible apply TX.here
  refine wa_ T (g:=?_)
  obtain⟨v30,h23,hr⟩:=bs hr
  refine TX.loopE (step:=kG v1 v2 v4) (x:=(v3,([]:List Int),0)) h23 (fun (v6,v7,v8)=>⟨.U::.v (.int .i64 v6)::.v (.int .i64 v4)::.fptr true [.v (.int .i64 v1),.list 1 (v2.map e_i)] 0::.U::.U::.U::.lsl 0 0 v7.length::.v (.int .i64 v8)::.U::.U::.U::.U::.U::.U::.U::.U::.U::.U::.U::.U::.U::.U::.U::.U::.U::.U::.U::.U::.U::.U::.U::.U::.U::.U::.U::.U::.U::.U::.U::.U::.U::.U::.U::.U::.U::.U::.U::.U::.U::.U::.U::[],[.rows 1 (v7.map e_i)]⟩) (fun v19=>(.exit 0,⟨.U::.U::.U::.U::.U::.U::.U::.lsl 0 0 v19.length::.U::.U::.U::.U::.U::.U::.U::.U::.U::.U::.U::.U::.U::.U::.U::.U::.U::.U::.U::.U::.U::.U::.U::.U::.U::.U::.U::.U::.U::.U::.U::.U::.U::.U::.U::.U::.U::.U::.U::.U::.U::.U::.U::.U::[],[.rows 1 (v19.map e_i)]⟩)) ?_ ?_ ?_ ?_
  ·rintro⟨v6,v7,v8⟩ v0 hr
   dsimp only[kG] at hr
   try dsimp only
   refine wa_ T (g:=?_)
   rcases ifs hr with⟨h12,hr⟩|⟨h12,hr⟩
   ·have T:=an h12 T
    refine wA T (g:=?_)
    rcases ifs hr with⟨h13,hr⟩|⟨h13,hr⟩
    ·have T:=an h13 T
     refine wa_ T (g:=?_)
     apply TO.bm e_i ([(v6.tmod 2)]:List Int) (wn T) rfl (by simp only[zz,y4,e_i,Nat.reduceAdd,Nat.reduceMul,Nat.reduceLeDiff,Nat.reduceEqDiff,tslice,tparts,h12,h13];exact rfl) rfl
     repeat exact sd T
     refine wa_ T (g:=?_)
     obtain⟨v20,h14,hr⟩:=bs hr
     apply TO.ap (f:=e_i) (xs:=v7) (ys:=([(v6.tmod 2)]:List Int)) (wn T) rfl rfl (by first|rfl|simp only[List.length_set]) rfl rfl so23 ni23 zc3 rfl (by rw[by3];exact h14) (fun _=>⟨rfl,rfl,rfl⟩)
     repeat exact sd T
     refine wa_ T (g:=?_)
     cases hr
     refine⟨rfl,?_⟩
     exact wk_ T [some 0] rfl (.rows .nil rfl rfl)
    ·have T:=an h13 T
     refine wa_ T (g:=?_)
     obtain⟨v28,h21,hr⟩:=bs hr
     refine TX.loopE (step:=kK v2 v7 v8) (x:=(0,0)) h21 (fun (v21,v22)=>⟨.U::.v (.int .i64 v6)::.v (.int .i64 v4)::.fptr true [.v (.int .i64 v1),.list 1 (v2.map e_i)] 0::.U::.U::.U::.lsl 0 0 v7.length::.v (.int .i64 v8)::.v (.int .i64 v21)::.v (.int .i64 v22)::.U::.U::.U::.U::.U::.U::.U::.U::.U::.U::.U::.U::.U::.U::.U::.U::.U::.U::.U::.U::.U::.U::.U::.U::.U::.U::.U::.U::.U::.U::.U::.U::.U::.U::.U::.U::.U::.U::.U::.U::.U::[],[.rows 1 (v7.map e_i)]⟩) (fun v25=>(.exit 2,⟨.U::.v (.int .i64 v6)::.v (.int .i64 v4)::.fptr true [.v (.int .i64 v1),.list 1 (v2.map e_i)] 0::.U::.U::.U::.lsl 0 0 v7.length::.v (.int .i64 v8)::.v (.int .i64 v25)::.U::.U::.U::.U::.U::.U::.U::.U::.U::.U::.U::.U::.U::.U::.U::.U::.U::.U::.U::.U::.U::.U::.U::.U::.U::.U::.U::.U::.U::.U::.U::.U::.U::.U::.U::.U::.U::.U::.U::.U::.U::.U::[],[.rows 1 (v7.map e_i)]⟩)) ?_ ?_ ?_ ?_
     ·rintro⟨v21,v22⟩ v0 hr
      dsimp only[kK] at hr
      try dsimp only
      refine wC T (g:=?_)
      rcases ifs hr with⟨h18,hr⟩|⟨h18,hr⟩
      ·have T:=an h18 T
       refine wA T (g:=?_)
       obtain⟨v26,h19,hr⟩:=bs hr
       have T:=an (gx e_i h19) T
       refine wA T (g:=?_)
       obtain⟨v27,h20,hr⟩:=bs hr
       have T:=an (gx e_i h20) T
       refine wA T (g:=?_)
       cases hr
       refine⟨rfl,?_⟩
       exact wk_ T [some 0] rfl (.rows .nil rfl rfl)
      ·have T:=an h18 T
       refine wa_ T (g:=?_)
       cases hr
       refine⟨rfl,?_⟩
       exact wk_ T [some 0] rfl (.rows .nil rfl rfl)
     ·intro e h;cases h
     ·try dsimp only
      refine wa_ T (g:=?_)
      apply TO.bm e_i ([(v28.tmod 2)]:List Int) (wn T) rfl (by simp only[zz,y4,e_i,Nat.reduceAdd,Nat.reduceMul,Nat.reduceLeDiff,Nat.reduceEqDiff,tslice,tparts,h12,h13];exact rfl) rfl
      repeat exact sd T
      refine wa_ T (g:=?_)
      obtain⟨v29,h22,hr⟩:=bs hr
      apply TO.ap (f:=e_i) (xs:=v7) (ys:=([(v28.tmod 2)]:List Int)) (wn T) rfl rfl (by first|rfl|simp only[List.length_set]) rfl rfl so23 ni23 zc3 rfl (by rw[by3];exact h22) (fun _=>⟨rfl,rfl,rfl⟩)
      repeat exact sd T
      refine wa_ T (g:=?_)
      cases hr
      refine⟨rfl,?_⟩
      exact wk_ T [some 0] rfl (.rows .nil rfl rfl)
     ·try dsimp only
      exact wk_ T [some 0] rfl (.rows .nil rfl rfl)
   ·have T:=an h12 T
    refine wa_ T (g:=?_)
    cases hr
    refine⟨rfl,?_⟩
    exact wk_ T [some 0] rfl (.rows .nil rfl rfl)
  ·intro e h;cases h
  ·try dsimp only
   refine wa_ T (g:=?_)
   cases hr
   refine⟨.inr rfl,_,(ry T),?_⟩
   exact wr [some 0] rfl (.rows .nil rfl rfl)
  ·try dsimp only
   exact wr [some 0] rfl (.rows .nil rfl rfl)
 rfl
end Go.Rex
namespace Go.Rex
open Go.Proofs
open Go Go.Rex Go.RowKit
set_option maxRecDepth 100000
set_option maxHeartbeats 200000
def y5:=an @ag25 <| an @ag3 <| an @cs25 <| an @cs3 <| an @tM <| an @ok25 <| an @ok3 <| an @so23 <| @Yi
theorem tV{v1:Int}{v2:(List Int)}{v3:Int}{v4:Int}(hr:nY v1 v2 v3=some (v4)):Spec (lim Try.prog) 76 [.agg [.v (.int .i64 v1),.list 1 (v2.map e_i)],.v (.int .i64 v3)] ⟨[.v (.int .i64 v4)],[]⟩:=by
 unfold nY at hr
 have T:=an y5 <| @e_i.eq_1
 apply Spec.fn Try.func76 rfl
 focus (simp[Try.f76]<;>exact rfl)
 focus
  refine wB T (g:=?_)
  obtain⟨v5,h1,hr⟩:=bs hr
  apply TO.cal (wn T) rfl aBp (Cf h1) rfl rfl rfl
  repeat exact sd T
  refine wA T (g:=?_)
  obtain⟨v11,h6,hr⟩:=bs hr
  refine TX.loopE (step:=kL v5) (x:=(0,v1)) h6 (fun (v6,v7)=>⟨.U::.U::.U::.U::.U::.lsl 0 0 v5.length::.v (.int .i64 v6)::.v (.int .i64 v7)::.U::.U::.U::.U::.U::.U::.U::.U::.U::.U::.U::.U::.U::.U::.U::.U::.U::.U::.U::.U::[],[.rows 1 (v5.map e_i)]⟩) (fun v9=>(.exit 0,⟨.U::.U::.U::.U::.U::.U::.v (.int .i64 v9)::.U::.U::.U::.U::.U::.U::.U::.U::.U::.U::.U::.U::.U::.U::.U::.U::.U::.U::.U::.U::.U::[],[]⟩)) ?_ ?_ ?_ ?_
  ·rintro⟨v6,v7⟩ v0 hr
   dsimp only[kL] at hr
   try dsimp only
   refine wa_ T (g:=?_)
   rcases ifs hr with⟨h4,hr⟩|⟨h4,hr⟩
   ·have T:=an h4 T
    refine wa_ T (g:=?_)
    obtain⟨v10,h5,hr⟩:=bs hr
    have T:=an (gx e_i h5) T
    refine wA T (g:=?_)
    cases hr
    refine⟨rfl,?_⟩
    exact wk_ T [some 0] rfl (.rows .nil rfl rfl)
   ·have T:=an h4 T
    refine wa_ T (g:=?_)
    cases hr
    refine⟨rfl,?_⟩
    exact wk_ T [] rfl .nil
  ·intro e h;cases h
  ·try dsimp only
   refine wa_ T (g:=?_)
   cases hr
   refine⟨.inr rfl,_,(ry T),?_⟩
   exact wr [] rfl .nil
  ·try dsimp only
   exact wr [some 0] rfl (.rows .nil rfl rfl)
 rfl
def y6:=an @ag25 <| an @cs25 <| an @ok25 <| @kW
theorem zB{v1:Int}{v2:(List Int)}{v3:Int}{v4:Int}(hr:nJ v1 v2 v3=some (v4)):Spec (lim Try.prog) 51 [.agg [.v (.int .i64 v1),.list 1 (v2.map e_i)],.v (.int .i64 v3)] ⟨[.v (.int .i64 v4)],[]⟩:=by
 unfold nJ at hr
 have T:=an y6 <| @e_i.eq_1
 apply Spec.fn Try.func51 rfl
 focus (simp[Try.f51]<;>exact rfl)
 focus
  refine wB T (g:=?_)
  obtain⟨v5,h1,hr⟩:=bs hr
  apply TO.cal (wn T) rfl aAp (tV h1) rfl rfl rfl
  repeat exact sd T
  refine wa_ T (g:=?_)
  obtain⟨v11,h6,hr⟩:=bs hr
  refine TX.loopE (step:=iN v1 v2 v3) (x:=(1,v5)) h6 (fun (v6,v7)=>⟨.U::.v (.int .i64 v3)::.fptr true [.v (.int .i64 v1),.list 1 (v2.map e_i)] 0::.U::.U::.v (.int .i64 v6)::.v (.int .i64 v7)::.U::.U::.U::.U::.U::.U::.U::.U::.U::.U::.U::.U::[],[]⟩) (fun v9=>(.exit 0,⟨.U::.U::.U::.U::.U::.v (.int .i64 v9)::.U::.U::.U::.U::.U::.U::.U::.U::.U::.U::.U::.U::.U::[],[]⟩)) ?_ ?_ ?_ ?_
  ·rintro⟨v6,v7⟩ v0 hr
   dsimp only[iN] at hr
   try dsimp only
   refine wa_ T (g:=?_)
   rcases ifs hr with⟨h4,hr⟩|⟨h4,hr⟩
   ·have T:=an h4 T
    refine wA T (g:=?_)
    obtain⟨v10,h5,hr⟩:=bs hr
    apply TO.cal (wn T) rfl aAp (tV h5) rfl rfl rfl
    repeat exact sd T
    refine wa_ T (g:=?_)
    cases hr
    refine⟨rfl,?_⟩
    exact wk_ T [] rfl .nil
   ·have T:=an h4 T
    refine wa_ T (g:=?_)
    cases hr
    refine⟨rfl,?_⟩
    exact wk_ T [] rfl .nil
  ·intro e h;cases h
  ·try dsimp only
   refine wa_ T (g:=?_)
   cases hr
   refine⟨.inr rfl,_,(ry T),?_⟩
   exact wr [] rfl .nil
  ·try dsimp only
   exact wr [] rfl .nil
 rfl
def y7:=an @ag25 <| an @cs25 <| @ok25
theorem uL{v1:Int}{v2:(List Int)}{v3:Bool}(hr:kA v1 v2=some (v3)):Spec (lim Try.prog) 20 [.agg [.v (.int .i64 v1),.list 1 (v2.map e_i)]] ⟨[.v (.bool v3)],[]⟩:=by
 unfold kA at hr
 have T:=an y7 <| @e_i.eq_1
 apply Spec.fn Try.func20 rfl
 focus (simp[Try.f20]<;>exact rfl)
 focus
  refine wB T (g:=?_)
  obtain⟨v4,h1,hr⟩:=bs hr
  apply TD.cal (wn T) rfl aBu (zB h1) rfl rfl rfl
  repeat exact sd T
  refine wA T (g:=?_)
  obtain⟨v5,h2,hr⟩:=bs hr
  apply TD.cal (wn T) rfl Zt (pG h2) rfl rfl rfl
  repeat exact sd T
  refine wa_ T (g:=?_)
  cases hr
  refine⟨.inr rfl,_,(ry T),?_⟩
  exact wr [] rfl .nil
 rfl
def y8:=an @ag23 <| an @ag25 <| an @ag3 <| an @cs25 <| an @tM <| an @Aq <| an @Ka <| an @Pv <| an @ok25 <| @so23
theorem uC{v1:Int}{v2:(List Int)}{v3:Int}{v4:Bool}(hr:gF v1 v2 v3=some (v4)):Spec (lim Try.prog) 5 [.agg [.v (.int .i64 v1),.list 1 (v2.map e_i),.v (.int .i64 v3)]] ⟨[.v (.bool v4)],[]⟩:=by
 unfold gF at hr
 have T:=an y8 <| @e_i.eq_1
 apply Spec.fn Try.func5 rfl
 focus (simp[Try.f5]<;>exact rfl)
 focus
  refine wD T (g:=?_)
  rcases ifs hr with⟨h1,hr⟩|⟨h1,hr⟩
  ·have T:=an h1 T
   refine wA T (g:=?_)
   obtain⟨v5,h2,hr⟩:=bs hr
   apply TO.cal (wn T) rfl aBn (vZ h2) rfl rfl rfl
   repeat exact sd T
   refine wa_ T (g:=?_)
   rcases ifs hr with⟨h3,hr⟩|⟨h3,hr⟩
   ·have T:=an h3 T
    refine wA T (g:=?_)
    rcases ifs hr with⟨h4,hr⟩|⟨h4,hr⟩
    ·have T:=an h4 T
     refine wA T (g:=?_)
     obtain⟨v6,h5,hr⟩:=bs hr
     apply TO.cal (wn T) rfl aBt (uL h5) rfl rfl rfl
     repeat exact sd T
     refine wa_ T (g:=?_)
     cases hr
     refine⟨.inr rfl,_,(ry T),?_⟩
     exact wk_ T [] rfl .nil
    ·have T:=an h4 T
     refine wa_ T (g:=?_)
     cases hr
     refine⟨.inr rfl,_,(ry T),?_⟩
     exact wk_ T [] rfl .nil
   ·have T:=an h3 T
    refine wa_ T (g:=?_)
    cases hr
    refine⟨.inr rfl,_,(ry T),?_⟩
    exact wk_ T [] rfl .nil
  ·have T:=an h1 T
   refine wa_ T (g:=?_)
   cases hr
   refine⟨.inr rfl,_,(ry T),?_⟩
   exact wk_ T [] rfl .nil
 rfl
def y9:=an @un3 <| @un49
theorem Am{v1:Int}{v2:Int}{v3:Nat}{v4:Nat}(hr:pC v1 v2=some (v3,v4)):Spec (lim Try.prog) 21 [.v (.int .i64 v1),.v (.int .i64 v2)] ⟨[.v (.complex .f32 v3 v4)],[]⟩:=by
 unfold pC at hr
 have T:=y9
 apply Spec.fn Try.func21 rfl
 focus (simp[Try.f21]<;>exact rfl)
 focus
  refine wa_ T (g:=?_)
  apply TO.pop1 (wn T) (Te rfl rfl)
  repeat exact sd T
  refine wa_ T (g:=?_)
  apply TO.pop1 (wn T) (Sl rfl rfl)
  repeat exact sd T
  refine wa_ T (g:=?_)
  apply TO.pop1 (wn T) (oN un3 un49 rfl)
  repeat exact sd T
  refine wa_ T (g:=?_)
  apply TO.pop1 (wn T) (Te rfl rfl)
  repeat exact sd T
  refine wa_ T (g:=?_)
  apply TO.pop1 (wn T) (Sl rfl rfl)
  repeat exact sd T
  refine wa_ T (g:=?_)
  apply TO.pop1 (wn T) (oN un3 un49 rfl)
  repeat exact sd T
  refine wa_ T (g:=?_)
  apply TO.pop1 (wn T) (By rfl rfl)
  repeat exact sd T
  refine wa_ T (g:=?_)
  cases hr
  refine⟨.inr rfl,_,(ry T),?_⟩
  exact wr [] rfl .nil
 rfl
end Go.Rex
namespace Go.Rex
open Go.Proofs
open Go Go.Rex Go.RowKit
set_option maxRecDepth 100000
set_option maxHeartbeats 1000000
def y10:=an @ag3 <| an @ar56 <| an @by57 <| an @cs3 <| an @cs56 <| an @cs57 <| an @ni32 <| an @ok3 <| an @ok56 <| an @so22 <| an @so32 <| an @so56 <| an @zc57 <| @bF
theorem uA{v1:(List (Int×Int))}{v2:Int}{v3:(List (Nat×Nat))}{v4:Bool}(hr:jQ v1 v2=some (v3,v4)):Spec (lim Try.prog) 8 [.list 2 (v1.map e_ii),.v (.int .i64 v2)] ⟨[.tuple [.lsl 0 0 v3.length,.v (.bool v4)]],[.rows 1 (v3.map e_c)]⟩:=by
 unfold jQ at hr
 have T:=an y10 <| an @e_c.eq_1 <| @e_ii.eq_1
 apply Spec.fn Try.func8 rfl
 focus (simp[Try.f8]<;>exact rfl)
 focus
  refine wa_ T (g:=?_)
  apply TX.vt (α:=(Nat×Nat)) e_c 6 1 rfl
  repeat exact sd T
  with_reducible apply TX.here
  refine wa_ T (g:=?_)
  obtain⟨v22,h17,hr⟩:=bs hr
  refine TX.loopE (step:=eP v1 v2) (x:=(([]:List (Nat×Nat)),0)) h17 (fun (v5,v6)=>⟨.list 2 (v1.map e_ii)::.v (.int .i64 v2)::.U::.U::.U::.U::.lsl 0 0 v5.length::.v (.int .i64 v6)::.U::.U::.U::.U::.U::.U::.U::.U::.U::.U::.U::.U::.U::.U::.U::.U::.U::.U::.U::.U::.U::.U::.U::.U::.U::.U::.U::.U::.U::.U::.U::.U::.U::.U::.U::.U::.U::.U::.U::.U::.U::.U::.U::[],[.rows 1 (v5.map e_c)]⟩) (fun e=>match e with|(.inl _)=>(.ret,⟨.U::.U::.U::.U::.v (.slice none 0 0)::.v (.bool false)::.U::.U::.U::.U::.U::.U::.U::.U::.U::.U::.U::.U::.U::.U::.U::.U::.U::.U::.U::.U::.U::.U::.U::.U::.U::.U::.U::.U::.U::.U::.U::.U::.U::.U::.U::.U::.U::.U::.U::.U::.U::.U::.U::.U::.U::[],[]⟩)|(.inr v14)=>(.exit 0,⟨.U::.U::.U::.U::.U::.U::.lsl 0 0 v14.length::.U::.U::.U::.U::.U::.U::.U::.U::.U::.U::.U::.U::.U::.U::.U::.U::.U::.U::.U::.U::.U::.U::.U::.U::.U::.U::.U::.U::.U::.U::.U::.U::.U::.U::.U::.U::.U::.U::.U::.U::.U::.U::.U::.U::[],[.rows 1 (v14.map e_c)]⟩)) ?_ ?_ ?_ ?_
  ·rintro⟨v5,v6⟩ v0 hr
   dsimp only[eP] at hr
   try dsimp only
   refine wc_ T (g:=?_)
   rcases ifs hr with⟨h9,hr⟩|⟨h9,hr⟩
   ·have T:=an h9 T
    refine wa_ T (g:=?_)
    obtain⟨⟨v15,v16⟩,h10,hr⟩:=bs hr
    try dsimp only at hr
    have h10m:=dZ (f:=e_ii) h10
    have h10l:=fQ h10
    try simp only[List.length_set] at h10l
    have h10a:=fS h10
    repeat (first|(with_reducible first|refine mv ?_|refine m12 rfl ?_|refine TO.nil ?_)|((with_reducible first|apply TO.ia|apply TO.ia|apply TO.ld|apply TO.mv);(repeat (focus (show _=_;first|exact k1 rfl|exact k2 rfl|(simp only[zz,y10,e_c,e_ii,Nat.reduceAdd,Nat.reduceMul,Nat.reduceLeDiff,Nat.reduceEqDiff,aB,Nat.zero_add,z5,Int.reduceToNat,Int.reduceLE,Int.reduceLT,Int.cast_ofNat_Int,tload,aN,aP,List.getElem?_map,h9,h10m,h10l,h10a]<;>exact rfl)|exact rfl)));(with_reducible apply TO.here))|((with_reducible apply TX.region);(focus (simp only[zl]<;>exact rfl));(focus rfl);(try dsimp only))|fail)
    have T:=an h10m T
    have T:=an h10l T
    have T:=an h10a T
    apply TO.pop1 (wn T) (Kv rfl)
    repeat exact sd T
    refine wa_ T (g:=?_)
    obtain⟨v17,h11,hr⟩:=bs hr
    apply TO.cal (wn T) rfl Hg (gG h11) rfl rfl rfl
    repeat exact sd T
    refine wa_ T (g:=?_)
    apply TO.pop1 (wn T) (dM rfl)
    repeat exact sd T
    refine wa_ T (g:=?_)
    rcases ifs hr with⟨h12,hr⟩|⟨h12,hr⟩
    ·repeat (first|(with_reducible first|refine mv ?_|refine m12 rfl ?_|refine TO.nil ?_)|((with_reducible first|apply TO.mv|apply TO.ia|apply TO.ia|apply TO.ld);(repeat (focus (show _=_;first|exact k1 rfl|exact k2 rfl|(simp only[zz,y10,e_c,e_ii,Nat.reduceAdd,Nat.reduceMul,Nat.reduceLeDiff,Nat.reduceEqDiff,aB,Nat.zero_add,z5,Int.reduceToNat,Int.reduceLE,Int.reduceLT,Int.cast_ofNat_Int,tload,aN,aP,List.getElem?_map,h9,h10m,h10l,h10a,h12]<;>exact rfl)|exact rfl)));(with_reducible apply TO.here))|((with_reducible apply TX.region);(focus (simp only[zl]<;>exact rfl));(focus rfl);(try dsimp only))|fail)
     have T:=an h12 T
     apply TO.pop1 (wn T) (Kv rfl)
     repeat exact sd T
     refine wa_ T (g:=?_)
     obtain⟨v18,h13,hr⟩:=bs hr
     apply TO.cal (wn T) rfl Hg (gG h13) rfl rfl rfl
     repeat exact sd T
     refine wa_ T (g:=?_)
     apply TO.pop1 (wn T) (dM rfl)
     repeat exact sd T
     refine wa_ T (g:=?_)
     rcases ifs hr with⟨h14,hr⟩|⟨h14,hr⟩
     ·repeat (first|(with_reducible first|refine mv ?_|refine m12 rfl ?_|refine TD.nil ?_)|((with_reducible first|apply TD.mv|apply TD.ia|apply TD.ia|apply TD.ld );(repeat (focus (show _=_;first|exact k1 rfl|exact k2 rfl|(simp only[zz,y10,e_c,e_ii,Nat.reduceAdd,Nat.reduceMul,Nat.reduceLeDiff,Nat.reduceEqDiff,aB,Nat.zero_add,z5,Int.reduceToNat,Int.reduceLE,Int.reduceLT,Int.cast_ofNat_Int,tload,aN,aP,List.getElem?_map,h9,h10m,h10l,h10a,h12,h14]<;>exact rfl)|exact rfl)));(with_reducible refine TD.here ?_))|((with_reducible apply TX.drawn);(focus decide +kernel);(focus (simp only[zl]<;>exact rfl));(focus exact rfl);(try dsimp only))|((with_reducible apply TX.cond_true);(focus rfl);(focus (first|rfl|(simp only[z1,zn,h9,h10m,h10l,h10a,h12,h14];done))))|((with_reducible apply TX.cond_false);(focus rfl);(focus (first|rfl|(simp only[z1,zn,h9,h10m,h10l,h10a,h12,h14];done))))|fail)
      obtain⟨⟨v19,v20⟩,h15,hr⟩:=bs hr
      try dsimp only at hr
      have T:=an h14 T
      apply TD.cal (wn T) rfl aB4 (Am h15) rfl rfl rfl
      repeat exact sd T
      refine wa_ T (g:=?_)
      apply TD.bm e_c ([(v19,v20)]:List (Nat×Nat)) (wn T) rfl (by simp only[zz,y10,e_c,e_ii,Nat.reduceAdd,Nat.reduceMul,Nat.reduceLeDiff,Nat.reduceEqDiff,tslice,tparts,h9,h10m,h10l,h10a,h12,h14];exact rfl) rfl
      repeat exact sd T
      refine wa_ T (g:=?_)
      obtain⟨v21,h16,hr⟩:=bs hr
      apply TD.ap (f:=e_c) (xs:=v5) (ys:=([(v19,v20)]:List (Nat×Nat))) (wn T) rfl rfl (by first|rfl|simp only[List.length_set]) rfl rfl so32 ni32 zc57 rfl (by rw[by57];exact h16) (fun _=>⟨rfl,rfl,rfl⟩) rfl
      repeat exact sd T
      refine wa_ T (g:=?_)
      cases hr
      refine⟨rfl,?_⟩
      exact wk_ T [some 0] rfl (.rows .nil rfl rfl)
     ·have T:=an h14 T
      refine wa_ T (g:=?_)
      cases hr
      refine⟨rfl,?_⟩
      exact wk_ T [] rfl .nil
    ·have T:=an h12 T
     refine wa_ T (g:=?_)
     cases hr
     refine⟨rfl,?_⟩
     exact wk_ T [] rfl .nil
   ·have T:=an h9 T
    refine wa_ T (g:=?_)
    cases hr
    refine⟨rfl,?_⟩
    exact wk_ T [some 0] rfl (.rows .nil rfl rfl)
  ·intro e h;rcases e with _|e<;>cases h
  ·try dsimp only
   rcases v22 with _|v23
   ·try dsimp only at hr
    try dsimp only
    refine wa_ T (g:=?_)
    cases hr
    refine⟨.inr rfl,_,(ry T),?_⟩
    exact wr [none] rfl (.virt .nil)
   ·try dsimp only at hr
    try dsimp only
    refine wa_ T (g:=?_)
    cases hr
    refine⟨.inr rfl,_,(ry T),?_⟩
    exact wr [some 0] rfl (.rows .nil rfl rfl)
  ·try dsimp only
   exact wr [some 0] rfl (.rows .nil rfl rfl)
 rfl
end Go.Rex
namespace Go.Rex
open Go.Proofs
open Go Go.Rex Go.RowKit
set_option maxRecDepth 100000
set_option maxHeartbeats 200000
theorem aF{v1:Bool}{v2:Int}{v3:Bool}{v4:Int}(hr:aD v1 v2=some (v3,v4)):Spec (lim Try.prog) 32 [.v (.bool v1),.v (.int .i64 v2)] ⟨[.func 61 [] [.fptr true [.v (.bool v3)] 0,.fptr true [.v (.int .i64 v4)] 0]],[]⟩:=by
 unfold aD at hr
 have T:=trivial
 apply Spec.fn Try.func32 rfl
 focus (simp[Try.f32]<;>exact rfl)
 focus
  refine wb_ T (g:=?_)
  cases hr
  refine⟨.inr rfl,_,(ry T),?_⟩
  exact wr [] rfl .nil
 rfl
theorem dB{v1:Int}{v2:Int}{v3:Int}{v4:Bool}{v5:Int}(hr:cF v1 v2 v3=some (v4,v5)):Spec (lim Try.prog) 23 [.v (.int .i64 v1),.v (.int .i64 v2),.v (.int .i64 v3)] ⟨[.func 61 [] [.fptr true [.v (.bool v4)] 0,.fptr true [.v (.int .i64 v5)] 0]],[]⟩:=by
 unfold cF at hr
 have T:=trivial
 apply Spec.fn Try.func23 rfl
 focus (simp[Try.f23]<;>exact rfl)
 focus
  refine wa_ T (g:=?_)
  rcases ifs hr with⟨h1,hr⟩|⟨h1,hr⟩
  ·have T:=an h1 T
   refine wa_ T (g:=?_)
   obtain⟨⟨v6,v7⟩,h2,hr⟩:=bs hr
   try dsimp only at hr
   apply TO.cal (wn T) rfl gQ (aF h2) rfl rfl rfl
   repeat exact sd T
   refine wa_ T (g:=?_)
   cases hr
   refine⟨.inr rfl,_,(ry T),?_⟩
   exact wk_ T [] rfl .nil
  ·have T:=an h1 T
   refine wa_ T (g:=?_)
   obtain⟨⟨v8,v9⟩,h3,hr⟩:=bs hr
   try dsimp only at hr
   apply TO.cal (wn T) rfl gQ (aF h3) rfl rfl rfl
   repeat exact sd T
   refine wa_ T (g:=?_)
   cases hr
   refine⟨.inr rfl,_,(ry T),?_⟩
   exact wk_ T [] rfl .nil
 rfl
def y11:=an @ag37 <| @ag4
theorem aC{v1:Bool}{v2:Int}{v3:Int}(hr:aA v1 v2=some (v3)):Spec (lim Try.prog) 61 [.fptr true [.v (.bool v1)] 0,.fptr true [.v (.int .i64 v2)] 0] ⟨[.v (.int .i64 v3)],[]⟩:=by
 unfold aA at hr
 have T:=y11
 apply Spec.fn Try.func61 rfl
 focus (simp[Try.f61]<;>exact rfl)
 focus
  refine wA T (g:=?_)
  rcases ifs hr with⟨h1,hr⟩|⟨h1,hr⟩
  ·have T:=an h1 T
   refine wA T (g:=?_)
   cases hr
   refine⟨.inr rfl,_,(ry T),?_⟩
   exact wk_ T [] rfl .nil
  ·have T:=an h1 T
   refine wa_ T (g:=?_)
   cases hr
   refine⟨.inr rfl,_,(ry T),?_⟩
   exact wk_ T [] rfl .nil
 rfl
def y12:=an @ag61 <| an @cs61 <| an @ok61 <| an @so92 <| an @bF <| @kW
theorem bC{v1:Bool}{v2:Int}{v3:Bool}{v4:Int}{v5:Int}(hr:aQ v1 v2 v3 v4=some (v5)):Spec (lim Try.prog) 22 [.list 1 [[.func 61 [] [.fptr true [.v (.bool v1)] 0,.fptr true [.v (.int .i64 v2)] 0]],[.func 61 [] [.fptr true [.v (.bool v3)] 0,.fptr true [.v (.int .i64 v4)] 0]]]] ⟨[.v (.int .i64 v5)],[]⟩:=by
 unfold aQ at hr
 have T:=y12
 apply Spec.fn Try.func22 rfl
 focus (simp[Try.f22]<;>exact rfl)
 focus
  refine wc_ T (g:=?_)
  refine TX.unroll ?_
  repeat (first|(with_reducible first|refine mv ?_|refine m12 rfl ?_|refine TO.nil ?_)|((with_reducible first|apply TO.bin|apply TO.ia|apply TO.ld|apply TO.asg|apply TO.mv);(repeat (focus (show _=_;first|exact k1 rfl|exact k2 rfl|(simp only[zz,y12,Nat.reduceAdd,Nat.reduceMul,Nat.reduceLeDiff,Nat.reduceEqDiff,aB,z5,Int.reduceToNat,Int.reduceLE,Int.reduceLT,Int.cast_ofNat_Int,tload,aN,aP,List.getElem?_map]<;>exact rfl)|exact rfl)));(with_reducible apply TO.here))|((with_reducible apply TX.region);(focus (simp only[zl]<;>exact rfl));(focus rfl);(try dsimp only))|((with_reducible apply TX.cond_true);(focus rfl);(focus (first|rfl|(simp only[z1,zn];done))))|((with_reducible apply TX.cond_false);(focus rfl);(focus (first|rfl|(simp only[z1,zn];done))))|fail)
  obtain⟨v6,h1,hr⟩:=bs hr
  apply TO.cal (wn T) rfl jT (aC h1) rfl rfl rfl
  repeat exact sd T
  refine wa_ T (g:=?_)
  rcases ifs hr with⟨h2,hr⟩|⟨h2,hr⟩
  ·have T:=an h2 T
   refine wa_ T (g:=?_)
   cases hr
   refine⟨.inr rfl,_,(ry T),?_⟩
   exact wk_ T [] rfl .nil
  ·have T:=an h2 T
   refine wa_ T (g:=?_)
   refine TX.unroll ?_
   repeat (first|(with_reducible first|refine mv ?_|refine m12 rfl ?_|refine TO.nil ?_)|((with_reducible first|apply TO.bin|apply TO.ia|apply TO.ld|apply TO.asg|apply TO.mv);(repeat (focus (show _=_;first|exact k1 rfl|exact k2 rfl|(simp only[zz,y12,Nat.reduceAdd,Nat.reduceMul,Nat.reduceLeDiff,Nat.reduceEqDiff,aB,z5,Int.reduceToNat,Int.reduceLE,Int.reduceLT,Int.cast_ofNat_Int,tload,aN,aP,List.getElem?_map,h2]<;>exact rfl)|exact rfl)));(with_reducible apply TO.here))|((with_reducible apply TX.region);(focus (simp only[zl]<;>exact rfl));(focus rfl);(try dsimp only))|((with_reducible apply TX.cond_true);(focus rfl);(focus (first|rfl|(simp only[z1,zn,h2];done))))|((with_reducible apply TX.cond_false);(focus rfl);(focus (first|rfl|(simp only[z1,zn,h2];done))))|fail)
   obtain⟨v7,h3,hr⟩:=bs hr
   apply TO.cal (wn T) rfl jT (aC h3) rfl rfl rfl
   repeat exact sd T
   refine wa_ T (g:=?_)
   rcases ifs hr with⟨h4,hr⟩|⟨h4,hr⟩
   ·have T:=an h4 T
    refine wa_ T (g:=?_)
    cases hr
    refine⟨.inr rfl,_,(ry T),?_⟩
    exact wk_ T [] rfl .nil
   ·have T:=an h4 T
    refine wa_ T (g:=?_)
    refine TX.unroll ?_
    refine wa_ T (g:=?_)
    cases hr
    refine⟨.inr rfl,_,(ry T),?_⟩
    exact wk_ T [] rfl .nil
 rfl
theorem nC{v1:Int}{v2:Int}{v3:Int}(hr:eH v1 v2=some (v3)):Spec (lim Try.prog) 24 [.v (.int .i64 v1),.v (.int .i64 v2)] ⟨[.v (.int .i64 v3)],[]⟩:=by
 unfold eH at hr
 have T:=trivial
 apply Spec.fn Try.func24 rfl
 focus (simp[Try.f24]<;>exact rfl)
 focus
  refine wa_ T (g:=?_)
  by_cases h1:v2=0
  ·rw[if_pos h1] at hr
   cases hr
  ·rw[if_neg h1] at hr
   have T:=an h1 T
   refine wa_ T (g:=?_)
   cases hr
   refine⟨.inr rfl,_,(ry T),?_⟩
   exact wr [] rfl .nil
 rfl
def y13:=an @qX <| @Zz
theorem qP{v1:Int}{v2:Bool}(hr:kH v1=some (v2)):Spec (lim Try.prog) 25 [.v (.int .i64 v1)] ⟨[.v (.bool v2)],[]⟩:=by
 unfold kH at hr
 have T:=y13
 apply Spec.fn Try.func25 rfl
 focus (simp[Try.f25]<;>exact rfl)
 focus
  refine wa_ T (g:=?_)
  obtain⟨v4,h7,hr⟩:=bs hr
  refine TX.loopE (step:=dV v1) (x:=2) h7 (fun v3=>⟨.v (.int .i64 v1)::.U::.U::.v (.int .i64 v3)::.U::.U::.U::.U::.U::.U::.U::.U::.U::.U::.U::[],[]⟩) (fun e=>match e with|(.inl _)=>(.ret,⟨.U::.U::.v (.bool false)::.U::.U::.U::.U::.U::.U::.U::.U::.U::.U::.U::.U::[],[]⟩)|(.inr _)=>(.exit 0,⟨.U::.U::.U::.U::.U::.U::.U::.U::.U::.U::.U::.U::.U::.U::.U::[],[]⟩)) ?_ ?_ ?_ ?_
  ·rintro v3 v0 hr
   dsimp only[dV] at hr
   try dsimp only
   refine wa_ T (g:=?_)
   rcases ifs hr with⟨h4,hr⟩|⟨h4,hr⟩
   ·have T:=an h4 T
    refine wa_ T (g:=?_)
    by_cases h5:v3=0
    ·rw[if_pos h5] at hr
     cases hr
    ·rw[if_neg h5] at hr
     have T:=an h5 T
     refine wa_ T (g:=?_)
     rcases ifs hr with⟨h6,hr⟩|⟨h6,hr⟩
     ·have T:=an h6 T
      refine wa_ T (g:=?_)
      cases hr
      refine⟨rfl,?_⟩
      exact wk_ T [] rfl .nil
     ·have T:=an h6 T
      refine wa_ T (g:=?_)
      cases hr
      refine⟨rfl,?_⟩
      exact wk_ T [] rfl .nil
   ·have T:=an h4 T
    refine wa_ T (g:=?_)
    cases hr
    refine⟨rfl,?_⟩
    exact wk_ T [] rfl .nil
  ·intro e h;rcases e with _|e<;>cases h
  ·try dsimp only
   rcases v4 with _|_
   ·try dsimp only at hr
    try dsimp only
    refine wa_ T (g:=?_)
    cases hr
    refine⟨.inr rfl,_,(ry T),?_⟩
    exact wr [] rfl .nil
   ·try dsimp only at hr
    try dsimp only
    refine wa_ T (g:=?_)
    cases hr
    refine⟨.inr rfl,_,(ry T),?_⟩
    exact wr [] rfl .nil
  ·try dsimp only
   exact wr [] rfl .nil
 rfl
def y14:=an @ag3 <| an @xK <| @rL
theorem aY{v1:Int}{v2:Int}{v3:Int}{v4:Int}{v5:Int}{v6:Int}(hr:aS v1 v2 v3 v4 v5=some (v6)):Spec (lim Try.prog) 70 [.agg [.v (.int .i64 v1),.v (.int .i64 v2),.v (.int .i64 v3)],.v (.int .i64 v4),.v (.int .i64 v5)] ⟨[.v (.int .i64 v6)],[]⟩:=by
 unfold aS at hr
 have T:=y14
 apply Spec.fn Try.func70 rfl
 focus (simp[Try.f70]<;>exact rfl)
 focus
  refine wB T (g:=?_)
  by_cases h1:v1=0
  ·rw[if_pos h1] at hr
   cases hr
  ·rw[if_neg h1] at hr
   have T:=an h1 T
   refine wa_ T (g:=?_)
   cases hr
   refine⟨.inr rfl,_,(ry T),?_⟩
   exact wr [] rfl .nil
 rfl
def y15:=an @ag66 <| an @cs66 <| @ok66
theorem nQ{v1:Int}{v2:Int}{v3:Int}{v4:Int}{v5:Int}{v6:Int}(hr:eD v1 v2 v3 v4 v5=some (v6)):Spec (lim Try.prog) 52 [.agg [.v (.int .i64 v1),.v (.int .i64 v2),.v (.int .i64 v3)],.v (.int .i64 v4),.v (.int .i64 v5)] ⟨[.v (.int .i64 v6)],[]⟩:=by
 unfold eD at hr
 have T:=y15
 apply Spec.fn Try.func52 rfl
 focus (simp[Try.f52]<;>exact rfl)
 focus
  refine wb_ T (g:=?_)
  obtain⟨v17,h11,hr⟩:=bs hr
  refine TX.loopE (step:=cP v1 v2 v3) (x:=(v4,v5,1)) h11 (fun (v7,v8,v9)=>⟨.U::.v (.int .i64 v7)::.v (.int .i64 v8)::.fptr true [.v (.int .i64 v1),.v (.int .i64 v2),.v (.int .i64 v3)] 0::.U::.U::.U::.v (.int .i64 v9)::.U::.U::.U::.U::.U::.U::.U::.U::.U::.U::.U::.U::.U::.U::.U::.U::[],[]⟩) (fun v13=>(.exit 0,⟨.U::.U::.U::.U::.U::.U::.U::.v (.int .i64 v13)::.U::.U::.U::.U::.U::.U::.U::.U::.U::.U::.U::.U::.U::.U::.U::.U::[],[]⟩)) ?_ ?_ ?_ ?_
  ·rintro⟨v7,v8,v9⟩ v0 hr
   dsimp only[cP] at hr
   try dsimp only
   refine wa_ T (g:=?_)
   rcases ifs hr with⟨h6,hr⟩|⟨h6,hr⟩
   ·have T:=an h6 T
    refine wa_ T (g:=?_)
    rcases ifs hr with⟨h7,hr⟩|⟨h7,hr⟩
    ·have T:=an h7 T
     refine wA T (g:=?_)
     obtain⟨v14,h8,hr⟩:=bs hr
     apply TO.cal (wn T) rfl uQ (aY h8) rfl rfl rfl
     repeat exact sd T
     refine wA T (g:=?_)
     obtain⟨v15,h9,hr⟩:=bs hr
     apply TO.cal (wn T) rfl uQ (aY h9) rfl rfl rfl
     repeat exact sd T
     refine wa_ T (g:=?_)
     cases hr
     refine⟨rfl,?_⟩
     exact wk_ T [] rfl .nil
    ·have T:=an h7 T
     refine wA T (g:=?_)
     obtain⟨v16,h10,hr⟩:=bs hr
     apply TO.cal (wn T) rfl uQ (aY h10) rfl rfl rfl
     repeat exact sd T
     refine wa_ T (g:=?_)
     cases hr
     refine⟨rfl,?_⟩
     exact wk_ T [] rfl .nil
   ·have T:=an h6 T
    refine wa_ T (g:=?_)
    cases hr
    refine⟨rfl,?_⟩
    exact wk_ T [] rfl .nil
  ·intro e h;cases h
  ·try dsimp only
   refine wa_ T (g:=?_)
   cases hr
   refine⟨.inr rfl,_,(ry T),?_⟩
   exact wr [] rfl .nil
  ·try dsimp only
   exact wr [] rfl .nil
 rfl
def y16:=an @ag3 <| an @ag66 <| an @cs66 <| an @Eb <| an @xB <| an @rL <| an @ok66 <| @kW
theorem lQ{v1:Int}{v2:Int}{v3:Int}{v4:Bool}(hr:cQ v1 v2 v3=some (v4)):Spec (lim Try.prog) 53 [.agg [.v (.int .i64 v1),.v (.int .i64 v2),.v (.int .i64 v3)]] ⟨[.v (.bool v4)],[]⟩:=by
 unfold cQ at hr
 have T:=y16
 apply Spec.fn Try.func53 rfl
 focus (simp[Try.f53]<;>exact rfl)
 focus
  refine wB T (g:=?_)
  obtain⟨⟨v11,v12⟩,h7,hr⟩:=bs hr
  try dsimp only at hr
  refine TX.loopE (step:=cJ v1 v2 v3) (x:=(v2,1)) h7 (fun (v5,v6)=>⟨.U::.fptr true [.v (.int .i64 v1),.v (.int .i64 v2),.v (.int .i64 v3)] 0::.U::.v (.int .i64 v5)::.v (.int .i64 v6)::.U::.U::.U::.U::.U::.U::.U::.U::.U::.U::.U::.U::.U::.U::.U::.U::.U::.U::.U::.U::.U::.U::.U::.U::.U::.U::.U::.U::.U::[],[]⟩) (fun (v8,v9)=>(.exit 0,⟨.U::.fptr true [.v (.int .i64 v1),.v (.int .i64 v2),.v (.int .i64 v3)] 0::.U::.v (.int .i64 v8)::.v (.int .i64 v9)::.U::.U::.U::.U::.U::.U::.U::.U::.U::.U::.U::.U::.U::.U::.U::.U::.U::.U::.U::.U::.U::.U::.U::.U::.U::.U::.U::.U::.U::[],[]⟩)) ?_ ?_ ?_ ?_
  ·rintro⟨v5,v6⟩ v0 hr
   dsimp only[cJ] at hr
   try dsimp only
   refine wa_ T (g:=?_)
   rcases ifs hr with⟨h4,hr⟩|⟨h4,hr⟩
   ·have T:=an h4 T
    refine wA T (g:=?_)
    rcases ifs hr with⟨h5,hr⟩|⟨h5,hr⟩
    ·have T:=an h5 T
     refine wA T (g:=?_)
     obtain⟨v10,h6,hr⟩:=bs hr
     apply TO.cal (wn T) rfl uQ (aY h6) rfl rfl rfl
     repeat exact sd T
     refine wa_ T (g:=?_)
     cases hr
     refine⟨rfl,?_⟩
     exact wk_ T [] rfl .nil
    ·have T:=an h5 T
     refine wa_ T (g:=?_)
     cases hr
     refine⟨rfl,?_⟩
     exact wk_ T [] rfl .nil
   ·have T:=an h4 T
    refine wa_ T (g:=?_)
    cases hr
    refine⟨rfl,?_⟩
    exact wk_ T [] rfl .nil
  ·intro e h;cases h
  ·try dsimp only
   refine wa_ T (g:=?_)
   rcases ifs hr with⟨h8,hr⟩|⟨h8,hr⟩
   ·have T:=an h8 T
    refine wA T (g:=?_)
    cases hr
    refine⟨.inr rfl,_,(ry T),?_⟩
    exact wk_ T [] rfl .nil
   ·have T:=an h8 T
    refine wa_ T (g:=?_)
    cases hr
    refine⟨.inr rfl,_,(ry T),?_⟩
    exact wk_ T [] rfl .nil
  ·try dsimp only
   exact wr [] rfl .nil
 rfl
def y17:=an @ag66 <| an @cs3 <| an @cs66 <| an @Eb <| an @rL <| an @ok3 <| an @ok66 <| an @st36 <| an @st66 <| an @zc36 <| an @zc66 <| @kW
theorem yM{v1:Int}{v2:Int}{v3:Int}{v4:Int}{v5:Int}(hr:pP v1 v2=some (v3,v4,v5)):Spec (lim Try.prog) 26 [.v (.int .i64 v1),.v (.int .i64 v2)] ⟨[.agg [.v (.int .i64 v3),.v (.int .i64 v4),.v (.int .i64 v5)]],[]⟩:=by
 unfold pP at hr
 have T:=y17
 apply Spec.fn Try.func26 rfl
 focus (simp[Try.f26]<;>exact rfl)
 focus
  refine wa_ T (g:=?_)
  obtain⟨v12,h9,hr⟩:=bs hr
  refine TX.loopE (step:=iP v1 v2) (x:=1) h9 (fun v6=>⟨.v (.int .i64 v1)::.v (.int .i64 v2)::.U::.U::.lptr 0 0 0::.v (.int .i64 v6)::.U::.U::.U::.U::.U::.U::.U::.U::.U::.U::.U::.U::.U::.U::.U::.U::.U::.U::.U::[],[.var [.v (.int .i64 0),.v (.int .i64 0),.v (.int .i64 0)]]⟩) (fun v9=>(.ret,⟨.U::.U::.U::.U::.lptr 0 0 0::.U::.U::.U::.U::.U::.U::.U::.U::.U::.U::.U::.U::.U::.U::.U::.U::.U::.U::.U::.U::[],[.var [.v (.int .i64 v2),.v (.int .i64 v9),.v (.int .i64 v1)]]⟩)) ?_ ?_ ?_ ?_
  ·rintro v6 v0 hr
   dsimp only[iP] at hr
   try dsimp only
   refine wA T (g:=?_)
   by_cases h5:v1=0
   ·rw[if_pos h5] at hr
    cases hr
   ·rw[if_neg h5] at hr
    have T:=an h5 T
    refine wa_ T (g:=?_)
    obtain⟨v10,h6,hr⟩:=bs hr
    apply TD.cal (wn T) rfl Wy (nQ h6) rfl rfl rfl
    repeat exact sd T
    refine wA T (g:=?_)
    obtain⟨v11,h7,hr⟩:=bs hr
    apply TO.cal (wn T) rfl Wa (lQ h7) rfl rfl rfl
    repeat exact sd T
    refine wa_ T (g:=?_)
    rcases ifs hr with⟨h8,hr⟩|⟨h8,hr⟩
    ·have T:=an h8 T
     refine wA T (g:=?_)
     cases hr
     refine⟨rfl,?_⟩
     exact wk_ T [some 0] rfl (rv .nil rfl)
    ·have T:=an h8 T
     refine wa_ T (g:=?_)
     cases hr
     refine⟨rfl,?_⟩
     exact wk_ T [some 0] rfl (rv .nil rfl)
  ·intro e h;cases h
  ·try dsimp only
   refine wa_ T (g:=?_)
   cases hr
   refine⟨.inr rfl,_,(ry T),?_⟩
   exact wr [] rfl .nil
  ·try dsimp only
   exact wr [some 0] rfl (rv .nil rfl)
 rfl
end Go.Rex
namespace Go.Rex
open Go.Proofs
open Go Go.Rex Go.RowKit
set_option maxRecDepth 100000
set_option maxHeartbeats 1000000
def y18:=an @ag36 <| an @cs36 <| an @cs61 <| an @rL <| an @ok36 <| an @so92 <| an @st36 <| an @zc36 <| @zc61
theorem xF{v1:Int}{v2:Int}{v3:Int}{v4:Int}{v5:Int}{v6:Int}(hr:lV v1 v2=some (v3,v4,v5,v6)):Spec (lim Try.prog) 9 [.v (.int .i64 v1),.v (.int .i64 v2)] ⟨[.tuple [.agg [.v (.int .i64 v3),.v (.int .i64 v4),.v (.int .i64 v5)],.v (.int .i64 v6)]],[]⟩:=by
 unfold lV at hr
 have T:=y18
 apply Spec.fn Try.func9 rfl
 focus (simp[Try.f9]<;>exact rfl)
 focus
  refine wa_ T (g:=?_)
  obtain⟨⟨v7,v8⟩,h1,hr⟩:=bs hr
  try dsimp only at hr
  apply TO.cal (wn T) rfl vG (dB h1) rfl rfl rfl
  repeat exact sd T
  refine wa_ T (g:=?_)
  obtain⟨⟨v9,v10⟩,h2,hr⟩:=bs hr
  try dsimp only at hr
  apply TO.cal (wn T) rfl vG (dB h2) rfl rfl rfl
  repeat exact sd T
  refine we_ T (g:=?_)
  obtain⟨v11,h3,hr⟩:=bs hr
  apply TO.cal (wn T) rfl nZ (bC h3) rfl rfl rfl
  repeat exact sd T
  refine wa_ T (g:=?_)
  rcases ifs hr with⟨h4,hr⟩|⟨h4,hr⟩
  ·have T:=an h4 T
   refine wa_ T (g:=?_)
   cases hr
   refine⟨.inr rfl,_,(ry T),?_⟩
   exact wk_ T [] rfl .nil
  ·have T:=an h4 T
   refine wa_ T (g:=?_)
   obtain⟨v12,h5,hr⟩:=bs hr
   apply TO.cal (wn T) rfl Qf (nC h5) rfl rfl rfl
   repeat exact sd T
   refine wa_ T (g:=?_)
   obtain⟨v25,h14,hr⟩:=bs hr
   refine TX.loopE (step:=fC v1) (x:=(IntKind.i64.wrap (v2+v12))) h14 (fun v13=>⟨.v (.int .i64 v1)::.U::.U::.U::.lptr 0 0 0::.U::.U::.v (.int .i64 v13)::.U::.U::.U::.U::.U::.U::.U::.U::.U::.U::.U::.U::.U::.U::.U::.U::.U::.U::.U::.U::.U::.U::.U::.U::.U::.U::.U::.U::[],[.var [.v (.int .i64 0),.v (.int .i64 0),.v (.int .i64 0)]]⟩) (fun e=>match e with|(.inl (v18,v19,v20))=>(.ret,⟨.U::.U::.U::.U::.lptr 0 0 0::.v (.int .i64 0)::.U::.U::.U::.U::.U::.U::.U::.U::.U::.U::.U::.U::.U::.U::.U::.U::.U::.U::.U::.U::.U::.U::.U::.U::.U::.U::.U::.U::.U::.U::[],[.var [.v (.int .i64 v18),.v (.int .i64 v19),.v (.int .i64 v20)]]⟩)|(.inr _)=>(.exit 0,⟨.U::.U::.U::.U::.lptr 0 0 0::.U::.U::.U::.U::.U::.U::.U::.U::.U::.U::.U::.U::.U::.U::.U::.U::.U::.U::.U::.U::.U::.U::.U::.U::.U::.U::.U::.U::.U::.U::.U::[],[.var [.v (.int .i64 0),.v (.int .i64 0),.v (.int .i64 0)]]⟩)) ?_ ?_ ?_ ?_
   ·rintro v13 v0 hr
    dsimp only[fC] at hr
    try dsimp only
    refine wa_ T (g:=?_)
    rcases ifs hr with⟨h10,hr⟩|⟨h10,hr⟩
    ·have T:=an h10 T
     refine wa_ T (g:=?_)
     obtain⟨v21,h11,hr⟩:=bs hr
     apply TO.cal (wn T) rfl Yp (qP h11) rfl rfl rfl
     repeat exact sd T
     refine wa_ T (g:=?_)
     rcases ifs hr with⟨h12,hr⟩|⟨h12,hr⟩
     ·have T:=an h12 T
      refine wa_ T (g:=?_)
      obtain⟨⟨v22,v23,v24⟩,h13,hr⟩:=bs hr
      try dsimp only at hr
      apply TO.cal (wn T) rfl aCG (yM h13) rfl rfl rfl
      repeat exact sd T
      refine wa_ T (g:=?_)
      cases hr
      refine⟨rfl,?_⟩
      exact wk_ T [some 0] rfl (rv .nil rfl)
     ·have T:=an h12 T
      refine wa_ T (g:=?_)
      cases hr
      refine⟨rfl,?_⟩
      exact wk_ T [some 0] rfl (rv .nil rfl)
    ·have T:=an h10 T
     refine wa_ T (g:=?_)
     cases hr
     refine⟨rfl,?_⟩
     exact wk_ T [some 0] rfl (rv .nil rfl)
   ·intro e h;rcases e with _|e<;>cases h
   ·try dsimp only
    rcases v25 with⟨v26,v27,v28⟩|_
    ·try dsimp only at hr
     try dsimp only
     refine wa_ T (g:=?_)
     cases hr
     refine⟨.inr rfl,_,(ry T),?_⟩
     exact wk_ T [] rfl .nil
    ·try dsimp only at hr
     try dsimp only
     refine wa_ T (g:=?_)
     cases hr
     refine⟨.inr rfl,_,(ry T),?_⟩
     exact wk_ T [] rfl .nil
   ·try dsimp only
    exact wk_ T [some 0] rfl (rv .nil rfl)
 rfl
end Go.Rex
namespace Go.Rex
open Go.Proofs
open Go Go.Rex Go.RowKit
set_option maxRecDepth 100000
set_option maxHeartbeats 200000
def y19:=an @by57 <| an @cs57 <| an @ni32 <| an @so32 <| @zc57
theorem mN{v1:(List (Nat×Nat))}{v2:(List (Nat×Nat))}(hr:iZ v1=some (v2)):Spec (lim Try.prog) 11 [.list 1 (v1.map e_c)] ⟨[.lsl 0 0 v2.length],[.rows 1 (v2.map e_c)]⟩:=by
 unfold iZ at hr
 have T:=an y19 <| @e_c.eq_1
 apply Spec.fn Try.func11 rfl
 focus (simp[Try.f11]<;>exact rfl)
 focus
  refine wa_ T (g:=?_)
  apply TO.bl e_c ([]:List (Nat×Nat)) (wn T) rfl (by simp only[zz,y19,e_c,Nat.reduceAdd,Nat.reduceMul,Nat.reduceLeDiff,Nat.reduceEqDiff,tslice,tparts];exact rfl) rfl rfl
  repeat exact sd T
  refine wa_ T (g:=?_)
  obtain⟨v3,h1,hr⟩:=bs hr
  apply TO.ap (f:=e_c) (xs:=([]:List (Nat×Nat))) (ys:=v1) (wn T) rfl rfl (by first|rfl|simp only[List.length_set]) rfl rfl so32 ni32 zc57 rfl (by rw[by57];exact h1) (fun _=>⟨rfl,rfl,rfl⟩)
  repeat exact sd T
  refine wa_ T (g:=?_)
  cases hr
  refine⟨.inr rfl,_,(ry T),?_⟩
  exact wr [some 0] rfl (.rows .nil rfl rfl)
 rfl
def y20:=an @by3 <| an @cs3 <| an @ni23 <| an @so23 <| @zc3
theorem xR{v1:(List Int)}{v2:(List Int)}(hr:mB v1=some (v2)):Spec (lim Try.prog) 40 [.list 1 (v1.map e_i)] ⟨[.lsl 0 0 v2.length],[.rows 1 (v2.map e_i)]⟩:=by
 unfold mB at hr
 have T:=an y20 <| @e_i.eq_1
 apply Spec.fn Try.func40 rfl
 focus (simp[Try.f40]<;>exact rfl)
 focus
  refine wa_ T (g:=?_)
  apply TO.bl e_i ([]:List Int) (wn T) rfl (by simp only[zz,y20,e_i,Nat.reduceAdd,Nat.reduceMul,Nat.reduceLeDiff,Nat.reduceEqDiff,tslice,tparts];exact rfl) rfl rfl
  repeat exact sd T
  refine wa_ T (g:=?_)
  obtain⟨v3,h1,hr⟩:=bs hr
  apply TO.ap (f:=e_i) (xs:=([]:List Int)) (ys:=v1) (wn T) rfl rfl (by first|rfl|simp only[List.length_set]) rfl rfl so23 ni23 zc3 rfl (by rw[by3];exact h1) (fun _=>⟨rfl,rfl,rfl⟩)
  repeat exact sd T
  refine wa_ T (g:=?_)
  cases hr
  refine⟨.inr rfl,_,(ry T),?_⟩
  exact wr [some 0] rfl (.rows .nil rfl rfl)
 rfl
def y21:=an @ag23 <| an @ag25 <| an @ag3 <| an @cs25 <| an @tM <| an @Aq <| an @ok25 <| an @st25 <| @zc25
theorem mE{v1:Int}{v2:(List Int)}{v3:Int}{v4:(List Int)}(hr:lB v1 v2=some (v3,v4)):Spec (lim Try.prog) 12 [.agg [.v (.int .i64 v1),.list 1 (v2.map e_i)]] ⟨[.agg [.v (.int .i64 v3),.lsl 0 0 v4.length]],[.rows 1 (v4.map e_i)]⟩:=by
 unfold lB at hr
 have T:=an y21 <| @e_i.eq_1
 apply Spec.fn Try.func12 rfl
 focus (simp[Try.f12]<;>exact rfl)
 focus
  refine wB T (g:=?_)
  obtain⟨v5,h1,hr⟩:=bs hr
  apply TD.cal (wn T) rfl aBC (xR h1) rfl rfl rfl
  repeat exact sd T
  refine wa_ T (g:=?_)
  cases hr
  refine⟨.inr rfl,_,(ry T),?_⟩
  exact wr [some 1] rfl (.rows .nil rfl rfl)
 rfl
theorem nR{v1:(List (Nat×Nat))}{v2:(List (Nat×Nat))}(hr:iT v1=some (v2)):Spec (lim Try.prog) 27 [.list 1 (v1.map e_c)] ⟨[.func 54 [] [.fptr true [.list 1 (v2.map e_c)] 0]],[]⟩:=by
 unfold iT at hr
 have T:=@e_c.eq_1
 apply Spec.fn Try.func27 rfl
 focus (simp[Try.f27]<;>exact rfl)
 focus
  refine wb_ T (g:=?_)
  cases hr
  refine⟨.inr rfl,_,(ry T),?_⟩
  exact wr [] rfl .nil
 rfl
theorem fM{v1:Int}{v2:(List Int)}{v3:Int}{v4:Int}{v5:Int}{v6:(List Int)}(hr:aZ v1 v2 v3=some (v4,v5,v6)):Spec (lim Try.prog) 29 [.agg [.v (.int .i64 v1),.list 1 (v2.map e_i)],.v (.int .i64 v3)] ⟨[.func 59 [] [.fptr true [.v (.int .i64 v4)] 0,.fptr true [.v (.int .i64 v5),.list 1 (v6.map e_i)] 0]],[]⟩:=by
 unfold aZ at hr
 have T:=@e_i.eq_1
 apply Spec.fn Try.func29 rfl
 focus (simp[Try.f29]<;>exact rfl)
 focus
  refine wb_ T (g:=?_)
  cases hr
  refine⟨.inr rfl,_,(ry T),?_⟩
  exact wr [] rfl .nil
 rfl
theorem uS{v1:Int}{v2:(List (Nat×Nat))}{v3:Int}{v4:(List (Nat×Nat))}(hr:mJ v1 v2=some (v3,v4)):Spec (lim Try.prog) 55 [.v (.int .i64 v1),.func 56 [] [.fptr true [.list 1 (v2.map e_c)] 0]] ⟨[.func 77 [] [.fptr true [.v (.int .i64 v3)] 0,.fptr true [.func 56 [] [.fptr true [.list 1 (v4.map e_c)] 0]] 0]],[]⟩:=by
 unfold mJ at hr
 have T:=@e_c.eq_1
 apply Spec.fn Try.func55 rfl
 focus (simp[Try.f55]<;>exact rfl)
 focus
  refine wb_ T (g:=?_)
  cases hr
  refine⟨.inr rfl,_,(ry T),?_⟩
  exact wr [] rfl .nil
 rfl
def y22:=an @aBh <| @ex96
theorem Ce{v1:Nat}{v2:Nat}(hr:mL v1=some (v2)):Spec (lim Try.prog) 90 [.v (.float .f64 v1)] ⟨[.v (.float .f64 v2)],[]⟩:=by
 unfold mL at hr
 have T:=y22
 apply Spec.fn Try.func90 rfl
 focus (simp[Try.f90]<;>exact rfl)
 focus
  refine wa_ T (g:=?_)
  obtain⟨v3,h1,hr⟩:=bs hr
  apply TO.tr (wn T) rfl ex96 aBh (by simp only[z1,z3,zl]<;>rfl) h1
  repeat exact sd T
  refine wa_ T (g:=?_)
  cases hr
  refine⟨.inr rfl,_,(ry T),?_⟩
  exact wr [] rfl .nil
 rfl
def y23:=an @ex100 <| @ex75
theorem Fm{v1:Nat}{v2:Nat}(hr:zM v1=some (v2)):Spec (lim Try.prog) 98 [.v (.float .f64 v1)] ⟨[.v (.float .f64 v2)],[]⟩:=by
 unfold zM at hr
 have T:=y23
 apply Spec.fn Try.func98 rfl
 focus (simp[Try.f98]<;>exact rfl)
 focus
  refine wa_ T (g:=?_)
  obtain⟨v3,h1,hr⟩:=bs hr
  apply TO.fb (wn T) rfl ex75 (by simp only[z1,z3,zl]<;>rfl) h1 rfl
  repeat exact sd T
  refine wa_ T (g:=?_)
  apply TO.pop1 (wn T) (uP rfl rfl (by decide))
  repeat exact sd T
  refine wa_ T (g:=?_)
  apply TO.ex (wn T) rfl ex100 (by simp only[z1,z3,zl];exact rfl) rfl rfl (rfl) rfl rfl rfl
  repeat exact sd T
  refine wa_ T (g:=?_)
  cases hr
  refine⟨.inr rfl,_,(ry T),?_⟩
  exact wr [] rfl .nil
 rfl
theorem Cc{v1:Nat}{v2:Int}{v3:Bool}(hr:oH v1 v2=some (v3)):Spec (lim Try.prog) 91 [.v (.float .f64 v1),.v (.int .i64 v2)] ⟨[.v (.bool v3)],[]⟩:=by
 unfold oH at hr
 have T:=trivial
 apply Spec.fn Try.func91 rfl
 focus (simp[Try.f91]<;>exact rfl)
 focus
  refine wa_ T (g:=?_)
  rcases ifs hr with⟨h1,hr⟩|⟨h1,hr⟩
  ·have T:=an h1 T
   refine wa_ T (g:=?_)
   obtain⟨v4,h2,hr⟩:=bs hr
   apply TO.cal (wn T) rfl aCn (Fm h2) rfl rfl rfl
   repeat exact sd T
   refine wa_ T (g:=?_)
   apply TO.pop1 (wn T) (rV rfl rfl (by decide))
   repeat exact sd T
   refine wa_ T (g:=?_)
   cases hr
   refine⟨.inr rfl,_,(ry T),?_⟩
   exact wk_ T [] rfl .nil
  ·have T:=an h1 T
   refine wa_ T (g:=?_)
   rcases ifs hr with⟨h3,hr⟩|⟨h3,hr⟩
   ·have T:=an h3 T
    refine wa_ T (g:=?_)
    apply TO.pop1 (wn T) (Ms rfl)
    repeat exact sd T
    refine wa_ T (g:=?_)
    apply TO.pop1 (wn T) (rV rfl rfl (by decide))
    repeat exact sd T
    refine wa_ T (g:=?_)
    cases hr
    refine⟨.inr rfl,_,(ry T),?_⟩
    exact wk_ T [] rfl .nil
   ·have T:=an h3 T
    refine wa_ T (g:=?_)
    apply TO.pop1 (wn T) (rV rfl rfl (by decide))
    repeat exact sd T
    refine wa_ T (g:=?_)
    cases hr
    refine⟨.inr rfl,_,(ry T),?_⟩
    exact wk_ T [] rfl .nil
 rfl
def y24:=an @un105 <| @un49
theorem qV{v1:Nat}{v2:Bool}(hr:jC v1=some (v2)):Spec (lim Try.prog) 78 [.v (.float .f32 v1)] ⟨[.v (.bool v2)],[]⟩:=by
 unfold jC at hr
 have T:=y24
 apply Spec.fn Try.func78 rfl
 focus (simp[Try.f78]<;>exact rfl)
 focus
  refine wa_ T (g:=?_)
  obtain⟨v3,h1,hr⟩:=bs hr
  apply TO.pop1 (wn T) (Cl un49 un105 rfl h1)
  repeat exact sd T
  refine wa_ T (g:=?_)
  obtain⟨v4,h2,hr⟩:=bs hr
  apply TO.cal (wn T) rfl aB6 (Ce h2) rfl rfl rfl
  repeat exact sd T
  refine wa_ T (g:=?_)
  apply TO.pop1 (wn T) (rV rfl rfl (by decide))
  repeat exact sd T
  refine wa_ T (g:=?_)
  rcases ifs hr with⟨h3,hr⟩|⟨h3,hr⟩
  ·have T:=an h3 T
   refine wa_ T (g:=?_)
   obtain⟨v5,h4,hr⟩:=bs hr
   apply TO.cal (wn T) rfl aBT (Cc h4) rfl rfl rfl
   repeat exact sd T
   refine wa_ T (g:=?_)
   apply TO.pop1 (wn T) (dM rfl)
   repeat exact sd T
   refine wa_ T (g:=?_)
   cases hr
   refine⟨.inr rfl,_,(ry T),?_⟩
   exact wk_ T [] rfl .nil
  ·have T:=an h3 T
   refine wa_ T (g:=?_)
   cases hr
   refine⟨.inr rfl,_,(ry T),?_⟩
   exact wk_ T [] rfl .nil
 rfl
theorem eM{v1:Nat}{v2:Nat}{v3:Bool}(hr:aX v1 v2=some (v3)):Spec (lim Try.prog) 79 [.v (.float .f32 v1),.v (.float .f32 v2)] ⟨[.v (.bool v3)],[]⟩:=by
 unfold aX at hr
 have T:=trivial
 apply Spec.fn Try.func79 rfl
 focus (simp[Try.f79]<;>exact rfl)
 focus
  refine wa_ T (g:=?_)
  apply TO.pop1 (wn T) (Ms rfl)
  repeat exact sd T
  refine wa_ T (g:=?_)
  apply TO.pop1 (wn T) (rV rfl rfl (by decide))
  repeat exact sd T
  refine wa_ T (g:=?_)
  rcases ifs hr with⟨h1,hr⟩|⟨h1,hr⟩
  ·have T:=an h1 T
   refine wa_ T (g:=?_)
   apply TO.pop1 (wn T) (rV rfl rfl (by decide))
   repeat exact sd T
   refine wa_ T (g:=?_)
   cases hr
   refine⟨.inr rfl,_,(ry T),?_⟩
   exact wk_ T [] rfl .nil
  ·have T:=an h1 T
   refine wa_ T (g:=?_)
   cases hr
   refine⟨.inr rfl,_,(ry T),?_⟩
   exact wk_ T [] rfl .nil
 rfl
end Go.Rex
namespace Go.Rex
open Go.Proofs
open Go Go.Rex Go.RowKit
set_option maxRecDepth 100000
set_option maxHeartbeats 1000000
def y25:=an @cs61 <| an @so92 <| @zc61
theorem xN{v1:Nat}{v2:Nat}{v3:Int}(hr:lZ v1 v2=some (v3)):Spec (lim Try.prog) 57 [.v (.complex .f32 v1 v2)] ⟨[.v (.int .i64 v3)],[]⟩:=by
 unfold lZ at hr
 have T:=y25
 apply Spec.fn Try.func57 rfl
 focus (simp[Try.f57]<;>exact rfl)
 focus
  refine wa_ T (g:=?_)
  apply TO.pop1 (wn T) (zR rfl)
  repeat exact sd T
  refine wa_ T (g:=?_)
  apply TO.pop1 (wn T) (zL rfl)
  repeat exact sd T
  refine wa_ T (g:=?_)
  obtain⟨v4,h1,hr⟩:=bs hr
  apply TO.cal (wn T) rfl Yx (qV h1) rfl rfl rfl
  repeat exact sd T
  refine wa_ T (g:=?_)
  apply TO.pop1 (wn T) (dM rfl)
  repeat exact sd T
  refine wa_ T (g:=?_)
  rcases ifs hr with⟨h2,hr⟩|⟨h2,hr⟩
  ·have T:=an h2 T
   refine wa_ T (g:=?_)
   obtain⟨v5,h3,hr⟩:=bs hr
   apply TO.cal (wn T) rfl Yx (qV h3) rfl rfl rfl
   repeat exact sd T
   refine wa_ T (g:=?_)
   apply TO.pop1 (wn T) (dM rfl)
   repeat exact sd T
   refine wa_ T (g:=?_)
   obtain⟨⟨v6,v7⟩,h4,hr⟩:=bs hr
   try dsimp only at hr
   apply TO.cal (wn T) rfl gQ (aF h4) rfl rfl rfl
   repeat exact sd T
   refine wa_ T (g:=?_)
   obtain⟨v8,h5,hr⟩:=bs hr
   apply TO.cal (wn T) rfl Kn (eM h5) rfl rfl rfl
   repeat exact sd T
   refine wa_ T (g:=?_)
   apply TO.pop1 (wn T) (dM rfl)
   repeat exact sd T
   refine wa_ T (g:=?_)
   rcases ifs hr with⟨h6,hr⟩|⟨h6,hr⟩
   ·have T:=an h6 T
    refine wa_ T (g:=?_)
    obtain⟨v9,h7,hr⟩:=bs hr
    apply TO.cal (wn T) rfl Kn (eM h7) rfl rfl rfl
    repeat exact sd T
    refine wa_ T (g:=?_)
    apply TO.pop1 (wn T) (dM rfl)
    repeat exact sd T
    refine wa_ T (g:=?_)
    obtain⟨⟨v10,v11⟩,h8,hr⟩:=bs hr
    try dsimp only at hr
    apply TO.cal (wn T) rfl gQ (aF h8) rfl rfl rfl
    repeat exact sd T
    refine we_ T (g:=?_)
    obtain⟨v12,h9,hr⟩:=bs hr
    apply TO.cal (wn T) rfl nZ (bC h9) rfl rfl rfl
    repeat exact sd T
    refine wa_ T (g:=?_)
    cases hr
    refine⟨.inr rfl,_,(ry T),?_⟩
    exact wk_ T [] rfl .nil
   ·have T:=an h6 T
    refine wa_ T (g:=?_)
    obtain⟨⟨v13,v14⟩,h10,hr⟩:=bs hr
    try dsimp only at hr
    apply TO.cal (wn T) rfl gQ (aF h10) rfl rfl rfl
    repeat exact sd T
    refine we_ T (g:=?_)
    obtain⟨v15,h11,hr⟩:=bs hr
    apply TO.cal (wn T) rfl nZ (bC h11) rfl rfl rfl
    repeat exact sd T
    refine wa_ T (g:=?_)
    cases hr
    refine⟨.inr rfl,_,(ry T),?_⟩
    exact wk_ T [] rfl .nil
  ·have T:=an h2 T
   refine wa_ T (g:=?_)
   obtain⟨⟨v16,v17⟩,h12,hr⟩:=bs hr
   try dsimp only at hr
   apply TO.cal (wn T) rfl gQ (aF h12) rfl rfl rfl
   repeat exact sd T
   refine wa_ T (g:=?_)
   obtain⟨v18,h13,hr⟩:=bs hr
   apply TO.cal (wn T) rfl Kn (eM h13) rfl rfl rfl
   repeat exact sd T
   refine wa_ T (g:=?_)
   apply TO.pop1 (wn T) (dM rfl)
   repeat exact sd T
   refine wa_ T (g:=?_)
   rcases ifs hr with⟨h14,hr⟩|⟨h14,hr⟩
   ·have T:=an h14 T
    refine wa_ T (g:=?_)
    obtain⟨v19,h15,hr⟩:=bs hr
    apply TO.cal (wn T) rfl Kn (eM h15) rfl rfl rfl
    repeat exact sd T
    refine wa_ T (g:=?_)
    apply TO.pop1 (wn T) (dM rfl)
    repeat exact sd T
    refine wa_ T (g:=?_)
    obtain⟨⟨v20,v21⟩,h16,hr⟩:=bs hr
    try dsimp only at hr
    apply TO.cal (wn T) rfl gQ (aF h16) rfl rfl rfl
    repeat exact sd T
    refine we_ T (g:=?_)
    obtain⟨v22,h17,hr⟩:=bs hr
    apply TO.cal (wn T) rfl nZ (bC h17) rfl rfl rfl
    repeat exact sd T
    refine wa_ T (g:=?_)
    cases hr
    refine⟨.inr rfl,_,(ry T),?_⟩
    exact wk_ T [] rfl .nil
   ·have T:=an h14 T
    refine wa_ T (g:=?_)
    obtain⟨⟨v23,v24⟩,h18,hr⟩:=bs hr
    try dsimp only at hr
    apply TO.cal (wn T) rfl gQ (aF h18) rfl rfl rfl
    repeat exact sd T
    refine we_ T (g:=?_)
    obtain⟨v25,h19,hr⟩:=bs hr
    apply TO.cal (wn T) rfl nZ (bC h19) rfl rfl rfl
    repeat exact sd T
    refine wa_ T (g:=?_)
    cases hr
    refine⟨.inr rfl,_,(ry T),?_⟩
    exact wk_ T [] rfl .nil
 rfl
end Go.Rex
namespace Go.Rex
open Go.Proofs
open Go Go.Rex Go.RowKit
set_option maxRecDepth 100000
set_option maxHeartbeats 200000
def y26:=an @ag32 <| an @ag57 <| an @cs57 <| an @ok57 <| @so32
theorem pH{v1:Int}{v2:(List (Nat×Nat))}{v3:Int}(hr:fR v1 v2=some (v3)):Spec (lim Try.prog) 56 [.v (.int .i64 v1),.fptr true [.list 1 (v2.map e_c)] 0] ⟨[.v (.int .i64 v3)],[]⟩:=by
 unfold fR at hr
 have T:=an y26 <| @e_c.eq_1
 apply Spec.fn Try.func56 rfl
 focus (simp[Try.f56]<;>exact rfl)
 focus
  refine wA T (g:=?_)
  obtain⟨⟨v4,v5⟩,h1,hr⟩:=bs hr
  try dsimp only at hr
  have T:=an (gx e_c h1) T
  refine wA T (g:=?_)
  obtain⟨v6,h2,hr⟩:=bs hr
  apply TO.cal (wn T) rfl aBX (xN h2) rfl rfl rfl
  repeat exact sd T
  refine wa_ T (g:=?_)
  cases hr
  refine⟨.inr rfl,_,(ry T),?_⟩
  exact wr [] rfl .nil
 rfl
def y27:=an @ag3 <| an @ag95 <| @bF
theorem rR{v1:Int}{v2:(List (Nat×Nat))}{v3:Int}(hr:jR v1 v2=some (v3)):Spec (lim Try.prog) 77 [.fptr true [.v (.int .i64 v1)] 0,.fptr true [.func 56 [] [.fptr true [.list 1 (v2.map e_c)] 0]] 0] ⟨[.v (.int .i64 v3)],[]⟩:=by
 unfold jR at hr
 have T:=an y27 <| @e_c.eq_1
 apply Spec.fn Try.func77 rfl
 focus (simp[Try.f77]<;>exact rfl)
 focus
  refine wA T (g:=?_)
  obtain⟨v8,h7,hr⟩:=bs hr
  refine TX.loopE (step:=bM v1 v2) (x:=0) h7 (fun v4=>⟨.U::.fptr true [.func 56 [] [.fptr true [.list 1 (v2.map e_c)] 0]] 0::.U::.U::.U::.v (.int .i64 v1)::.v (.int .i64 v4)::.U::.U::.U::.U::.U::.U::.U::.U::.U::[],[]⟩) (fun e=>match e with|(.inl v6)=>(.ret,⟨.U::.U::.v (.int .i64 v6)::.U::.U::.U::.U::.U::.U::.U::.U::.U::.U::.U::.U::.U::[],[]⟩)|(.inr _)=>(.exit 0,⟨.U::.U::.U::.U::.U::.U::.U::.U::.U::.U::.U::.U::.U::.U::.U::.U::[],[]⟩)) ?_ ?_ ?_ ?_
  ·rintro v4 v0 hr
   dsimp only[bM] at hr
   try dsimp only
   refine wa_ T (g:=?_)
   rcases ifs hr with⟨h4,hr⟩|⟨h4,hr⟩
   ·have T:=an h4 T
    refine wA T (g:=?_)
    obtain⟨v7,h5,hr⟩:=bs hr
    apply TO.cal (wn T) rfl aBN (pH h5) rfl rfl rfl
    repeat exact sd T
    refine wa_ T (g:=?_)
    rcases ifs hr with⟨h6,hr⟩|⟨h6,hr⟩
    ·have T:=an h6 T
     refine wa_ T (g:=?_)
     cases hr
     refine⟨rfl,?_⟩
     exact wk_ T [] rfl .nil
    ·have T:=an h6 T
     refine wa_ T (g:=?_)
     cases hr
     refine⟨rfl,?_⟩
     exact wk_ T [] rfl .nil
   ·have T:=an h4 T
    refine wa_ T (g:=?_)
    cases hr
    refine⟨rfl,?_⟩
    exact wk_ T [] rfl .nil
  ·intro e h;rcases e with _|e<;>cases h
  ·try dsimp only
   rcases v8 with v9|_
   ·try dsimp only at hr
    try dsimp only
    refine wa_ T (g:=?_)
    cases hr
    refine⟨.inr rfl,_,(ry T),?_⟩
    exact wr [] rfl .nil
   ·try dsimp only at hr
    try dsimp only
    refine wa_ T (g:=?_)
    cases hr
    refine⟨.inr rfl,_,(ry T),?_⟩
    exact wr [] rfl .nil
  ·try dsimp only
   exact wr [] rfl .nil
 rfl
def y28:=an @ag61 <| an @cs61 <| an @ok61 <| an @so92 <| an @bF <| an @kW <| @qX
theorem qC{v1:Bool}{v2:Int}{v3:Bool}{v4:Int}{v5:Int}{v6:(List (Nat×Nat))}{v7:Int}(hr:iH v1 v2 v3 v4 v5 v6=some (v7)):Spec (lim Try.prog) 22 [.list 1 [[.func 61 [] [.fptr true [.v (.bool v1)] 0,.fptr true [.v (.int .i64 v2)] 0]],[.func 61 [] [.fptr true [.v (.bool v3)] 0,.fptr true [.v (.int .i64 v4)] 0]],[.func 77 [] [.fptr true [.v (.int .i64 v5)] 0,.fptr true [.func 56 [] [.fptr true [.list 1 (v6.map e_c)] 0]] 0]]]] ⟨[.v (.int .i64 v7)],[]⟩:=by
 unfold iH at hr
 have T:=an y28 <| @e_c.eq_1
 apply Spec.fn Try.func22 rfl
 focus (simp[Try.f22]<;>exact rfl)
 focus
  refine wc_ T (g:=?_)
  refine TX.unroll ?_
  repeat (first|(with_reducible first|refine mv ?_|refine m12 rfl ?_|refine TO.nil ?_)|((with_reducible first|apply TO.bin|apply TO.ia|apply TO.ld|apply TO.asg|apply TO.mv);(repeat (focus (show _=_;first|exact k1 rfl|exact k2 rfl|(simp only[zz,y28,e_c,Nat.reduceAdd,Nat.reduceMul,Nat.reduceLeDiff,Nat.reduceEqDiff,aB,z5,Int.reduceToNat,Int.reduceLE,Int.reduceLT,Int.cast_ofNat_Int,tload,aN,aP,List.getElem?_map]<;>exact rfl)|exact rfl)));(with_reducible apply TO.here))|((with_reducible apply TX.region);(focus (simp only[zl]<;>exact rfl));(focus rfl);(try dsimp only))|((with_reducible apply TX.cond_true);(focus rfl);(focus (first|rfl|(simp only[z1,zn];done))))|((with_reducible apply TX.cond_false);(focus rfl);(focus (first|rfl|(simp only[z1,zn];done))))|fail)
  obtain⟨v8,h1,hr⟩:=bs hr
  apply TO.cal (wn T) rfl jT (aC h1) rfl rfl rfl
  repeat exact sd T
  refine wa_ T (g:=?_)
  rcases ifs hr with⟨h2,hr⟩|⟨h2,hr⟩
  ·have T:=an h2 T
   refine wa_ T (g:=?_)
   cases hr
   refine⟨.inr rfl,_,(ry T),?_⟩
   exact wk_ T [] rfl .nil
  ·have T:=an h2 T
   refine wa_ T (g:=?_)
   refine TX.unroll ?_
   repeat (first|(with_reducible first|refine mv ?_|refine m12 rfl ?_|refine TO.nil ?_)|((with_reducible first|apply TO.bin|apply TO.ia|apply TO.ld|apply TO.asg|apply TO.mv);(repeat (focus (show _=_;first|exact k1 rfl|exact k2 rfl|(simp only[zz,y28,e_c,Nat.reduceAdd,Nat.reduceMul,Nat.reduceLeDiff,Nat.reduceEqDiff,aB,z5,Int.reduceToNat,Int.reduceLE,Int.reduceLT,Int.cast_ofNat_Int,tload,aN,aP,List.getElem?_map,h2]<;>exact rfl)|exact rfl)));(with_reducible apply TO.here))|((with_reducible apply TX.region);(focus (simp only[zl]<;>exact rfl));(focus rfl);(try dsimp only))|((with_reducible apply TX.cond_true);(focus rfl);(focus (first|rfl|(simp only[z1,zn,h2];done))))|((with_reducible apply TX.cond_false);(focus rfl);(focus (first|rfl|(simp only[z1,zn,h2];done))))|fail)
   obtain⟨v9,h3,hr⟩:=bs hr
   apply TO.cal (wn T) rfl jT (aC h3) rfl rfl rfl
   repeat exact sd T
   refine wa_ T (g:=?_)
   rcases ifs hr with⟨h4,hr⟩|⟨h4,hr⟩
   ·have T:=an h4 T
    refine wa_ T (g:=?_)
    cases hr
    refine⟨.inr rfl,_,(ry T),?_⟩
    exact wk_ T [] rfl .nil
   ·have T:=an h4 T
    refine wa_ T (g:=?_)
    refine TX.unroll ?_
    repeat (first|(with_reducible first|refine mv ?_|refine m12 rfl ?_|refine TO.nil ?_)|((with_reducible first|apply TO.bin|apply TO.ia|apply TO.ld|apply TO.asg|apply TO.mv);(repeat (focus (show _=_;first|exact k1 rfl|exact k2 rfl|(simp only[zz,y28,e_c,Nat.reduceAdd,Nat.reduceMul,Nat.reduceLeDiff,Nat.reduceEqDiff,aB,z5,Int.reduceToNat,Int.reduceLE,Int.reduceLT,Int.cast_ofNat_Int,tload,aN,aP,List.getElem?_map,h2,h4]<;>exact rfl)|exact rfl)));(with_reducible apply TO.here))|((with_reducible apply TX.region);(focus (simp only[zl]<;>exact rfl));(focus rfl);(try dsimp only))|((with_reducible apply TX.cond_true);(focus rfl);(focus (first|rfl|(simp only[z1,zn,h2,h4];done))))|((with_reducible apply TX.cond_false);(focus rfl);(focus (first|rfl|(simp only[z1,zn,h2,h4];done))))|fail)
    obtain⟨v10,h5,hr⟩:=bs hr
    apply TO.cal (wn T) rfl Qr (rR h5) rfl rfl rfl
    repeat exact sd T
    refine wa_ T (g:=?_)
    rcases ifs hr with⟨h6,hr⟩|⟨h6,hr⟩
    ·have T:=an h6 T
     refine wa_ T (g:=?_)
     cases hr
     refine⟨.inr rfl,_,(ry T),?_⟩
     exact wk_ T [] rfl .nil
    ·have T:=an h6 T
     refine wa_ T (g:=?_)
     refine TX.unroll ?_
     refine wa_ T (g:=?_)
     cases hr
     refine⟨.inr rfl,_,(ry T),?_⟩
     exact wk_ T [] rfl .nil
 rfl
def y29:=an @ag32 <| an @cs61 <| an @so32 <| an @so92 <| @zc61
theorem iK{v1:(List (Nat×Nat))}{v2:Int}(hr:cM v1=some (v2)):Spec (lim Try.prog) 54 [.fptr true [.list 1 (v1.map e_c)] 0] ⟨[.v (.int .i64 v2)],[]⟩:=by
 unfold cM at hr
 have T:=an y29 <| @e_c.eq_1
 apply Spec.fn Try.func54 rfl
 focus (simp[Try.f54]<;>exact rfl)
 focus
  refine wC T (g:=?_)
  obtain⟨⟨v3,v4⟩,h1,hr⟩:=bs hr
  try dsimp only at hr
  apply TD.cal (wn T) rfl gQ (aF h1) rfl rfl rfl
  repeat exact sd T
  refine wC T (g:=?_)
  obtain⟨⟨v5,v6⟩,h2,hr⟩:=bs hr
  try dsimp only at hr
  apply TD.cal (wn T) rfl gQ (aF h2) rfl rfl rfl
  repeat exact sd T
  refine wC T (g:=?_)
  obtain⟨⟨v7,v8⟩,h3,hr⟩:=bs hr
  try dsimp only at hr
  apply TD.cal (wn T) rfl Rl (uS h3) rfl rfl rfl
  repeat exact sd T
  refine we_ T (g:=?_)
  obtain⟨v9,h4,hr⟩:=bs hr
  apply TD.cal (wn T) rfl nZ (qC h4) rfl rfl rfl
  repeat exact sd T
  refine wa_ T (g:=?_)
  cases hr
  refine⟨.inr rfl,_,(ry T),?_⟩
  exact wr [] rfl .nil
 rfl
theorem vE{v1:Int}{v2:(List Int)}{v3:Int}{v4:Int}{v5:Int}{v6:(List Int)}{v7:Int}{v8:Int}(hr:mH v1 v2 v3 v4=some (v5,v6,v7,v8)):Spec (lim Try.prog) 55 [.v (.int .i64 v1),.func 92 [] [.fptr true [.list 1 (v2.map e_i)] 0,.fptr true [.v (.int .i64 v3)] 0,.fptr true [.v (.int .i64 v4)] 0]] ⟨[.func 77 [] [.fptr true [.v (.int .i64 v5)] 0,.fptr true [.func 92 [] [.fptr true [.list 1 (v6.map e_i)] 0,.fptr true [.v (.int .i64 v7)] 0,.fptr true [.v (.int .i64 v8)] 0]] 0]],[]⟩:=by
 unfold mH at hr
 have T:=@e_i.eq_1
 apply Spec.fn Try.func55 rfl
 focus (simp[Try.f55]<;>exact rfl)
 focus
  refine wb_ T (g:=?_)
  cases hr
  refine⟨.inr rfl,_,(ry T),?_⟩
  exact wr [] rfl .nil
 rfl
def y30:=an @ag23 <| @so23
theorem uH{v1:(List Int)}{v2:Int}{v3:Int}{v4:Int}{v5:(List Int)}{v6:Int}{v7:Int}(hr:mG v1 v2 v3=some (v4,v5,v6,v7)):Spec (lim Try.prog) 80 [.list 1 (v1.map e_i),.v (.int .i64 v2),.v (.int .i64 v3)] ⟨[.func 77 [] [.fptr true [.v (.int .i64 v4)] 0,.fptr true [.func 92 [] [.fptr true [.list 1 (v5.map e_i)] 0,.fptr true [.v (.int .i64 v6)] 0,.fptr true [.v (.int .i64 v7)] 0]] 0]],[]⟩:=by
 unfold mG at hr
 have T:=an y30 <| @e_i.eq_1
 apply Spec.fn Try.func80 rfl
 focus (simp[Try.f80]<;>exact rfl)
 focus
  refine wD T (g:=?_)
  obtain⟨⟨v8,v9,v10,v11⟩,h1,hr⟩:=bs hr
  try dsimp only at hr
  apply TO.cal (wn T) rfl Rl (vE h1) rfl rfl rfl
  repeat exact sd T
  refine wa_ T (g:=?_)
  cases hr
  refine⟨.inr rfl,_,(ry T),?_⟩
  exact wr [] rfl .nil
 rfl
def y31:=an @ag3 <| an @cs3 <| an @ok3 <| an @so23 <| @bF
theorem rC{v1:(List Int)}{v2:Int}{v3:Int}(hr:iV v1 v2=some (v3)):Spec (lim Try.prog) 93 [.list 1 (v1.map e_i),.v (.int .i64 v2)] ⟨[.v (.int .i64 v3)],[]⟩:=by
 unfold iV at hr
 have T:=an y31 <| @e_i.eq_1
 apply Spec.fn Try.func93 rfl
 focus (simp[Try.f93]<;>exact rfl)
 focus
  refine wc_ T (g:=?_)
  obtain⟨v8,h7,hr⟩:=bs hr
  refine TX.loopE (step:=cH v1 v2) (x:=0) h7 (fun v4=>⟨.list 1 (v1.map e_i)::.v (.int .i64 v2)::.U::.U::.U::.U::.U::.v (.int .i64 (v1.length:Int))::.v (.int .i64 v4)::.U::.U::.U::.U::.U::.U::.U::.U::.U::.U::[],[]⟩) (fun e=>match e with|(.inl v6)=>(.ret,⟨.U::.U::.U::.U::.v (.int .i64 v6)::.U::.U::.U::.U::.U::.U::.U::.U::.U::.U::.U::.U::.U::.U::[],[]⟩)|(.inr _)=>(.exit 0,⟨.U::.U::.U::.U::.U::.U::.U::.U::.U::.U::.U::.U::.U::.U::.U::.U::.U::.U::.U::[],[]⟩)) ?_ ?_ ?_ ?_
  ·rintro v4 v0 hr
   dsimp only[cH] at hr
   try dsimp only
   refine wa_ T (g:=?_)
   rcases ifs hr with⟨h4,hr⟩|⟨h4,hr⟩
   ·have T:=an h4 T
    refine wa_ T (g:=?_)
    obtain⟨v7,h5,hr⟩:=bs hr
    have T:=an (gx e_i h5) T
    refine wA T (g:=?_)
    rcases ifs hr with⟨h6,hr⟩|⟨h6,hr⟩
    ·have T:=an h6 T
     refine wa_ T (g:=?_)
     cases hr
     refine⟨rfl,?_⟩
     exact wk_ T [] rfl .nil
    ·have T:=an h6 T
     refine wa_ T (g:=?_)
     cases hr
     refine⟨rfl,?_⟩
     exact wk_ T [] rfl .nil
   ·have T:=an h4 T
    refine wa_ T (g:=?_)
    cases hr
    refine⟨rfl,?_⟩
    exact wk_ T [] rfl .nil
  ·intro e h;rcases e with _|e<;>cases h
  ·try dsimp only
   rcases v8 with v9|_
   ·try dsimp only at hr
    try dsimp only
    refine wa_ T (g:=?_)
    cases hr
    refine⟨.inr rfl,_,(ry T),?_⟩
    exact wr [] rfl .nil
   ·try dsimp only at hr
    try dsimp only
    refine wa_ T (g:=?_)
    cases hr
    refine⟨.inr rfl,_,(ry T),?_⟩
    exact wr [] rfl .nil
  ·try dsimp only
   exact wr [] rfl .nil
 rfl
theorem pK{v1:(List Int)}{v2:Int}{v3:Bool}(hr:dT v1 v2=some (v3)):Spec (lim Try.prog) 81 [.list 1 (v1.map e_i),.v (.int .i64 v2)] ⟨[.v (.bool v3)],[]⟩:=by
 unfold dT at hr
 have T:=@e_i.eq_1
 apply Spec.fn Try.func81 rfl
 focus (simp[Try.f81]<;>exact rfl)
 focus
  refine wa_ T (g:=?_)
  obtain⟨v4,h1,hr⟩:=bs hr
  apply TO.cal (wn T) rfl aCp (rC h1) rfl rfl rfl
  repeat exact sd T
  refine wa_ T (g:=?_)
  cases hr
  refine⟨.inr rfl,_,(ry T),?_⟩
  exact wr [] rfl .nil
 rfl
def y32:=an @ag23 <| an @ag3 <| an @cs3 <| an @cs61 <| an @ok3 <| an @so23 <| an @so92 <| @zc61
theorem pJ{v1:Int}{v2:(List Int)}{v3:Int}{v4:Int}{v5:Int}(hr:dR v1 v2 v3 v4=some (v5)):Spec (lim Try.prog) 92 [.v (.int .i64 v1),.fptr true [.list 1 (v2.map e_i)] 0,.fptr true [.v (.int .i64 v3)] 0,.fptr true [.v (.int .i64 v4)] 0] ⟨[.v (.int .i64 v5)],[]⟩:=by
 unfold dR at hr
 have T:=an y32 <| @e_i.eq_1
 apply Spec.fn Try.func92 rfl
 focus (simp[Try.f92]<;>exact rfl)
 focus
  refine wA T (g:=?_)
  obtain⟨v6,h1,hr⟩:=bs hr
  have T:=an (gx e_i h1) T
  refine wA T (g:=?_)
  obtain⟨⟨v7,v8⟩,h2,hr⟩:=bs hr
  try dsimp only at hr
  apply TD.cal (wn T) rfl vG (dB h2) rfl rfl rfl
  repeat exact sd T
  refine wa_ T (g:=?_)
  rcases ifs hr with⟨h3,hr⟩|⟨h3,hr⟩
  ·have T:=an h3 T
   refine wA T (g:=?_)
   obtain⟨v9,h4,hr⟩:=bs hr
   have T:=an (gx e_i h4) T
   refine wA T (g:=?_)
   obtain⟨⟨v10,v11⟩,h5,hr⟩:=bs hr
   try dsimp only at hr
   apply TD.cal (wn T) rfl gQ (aF h5) rfl rfl rfl
   repeat exact sd T
   refine we_ T (g:=?_)
   obtain⟨v12,h6,hr⟩:=bs hr
   apply TD.cal (wn T) rfl nZ (bC h6) rfl rfl rfl
   repeat exact sd T
   refine wa_ T (g:=?_)
   cases hr
   refine⟨.inr rfl,_,(ry T),?_⟩
   exact wk_ T [] rfl .nil
  ·have T:=an h3 T
   refine wa_ T (g:=?_)
   obtain⟨⟨v13,v14⟩,h7,hr⟩:=bs hr
   try dsimp only at hr
   apply TD.cal (wn T) rfl gQ (aF h7) rfl rfl rfl
   repeat exact sd T
   refine we_ T (g:=?_)
   obtain⟨v15,h8,hr⟩:=bs hr
   apply TD.cal (wn T) rfl nZ (bC h8) rfl rfl rfl
   repeat exact sd T
   refine wa_ T (g:=?_)
   cases hr
   refine⟨.inr rfl,_,(ry T),?_⟩
   exact wk_ T [] rfl .nil
 rfl
def y33:=an @ag3 <| an @ag95 <| @bF
theorem sB{v1:Int}{v2:(List Int)}{v3:Int}{v4:Int}{v5:Int}(hr:jW v1 v2 v3 v4=some (v5)):Spec (lim Try.prog) 77 [.fptr true [.v (.int .i64 v1)] 0,.fptr true [.func 92 [] [.fptr true [.list 1 (v2.map e_i)] 0,.fptr true [.v (.int .i64 v3)] 0,.fptr true [.v (.int .i64 v4)] 0]] 0] ⟨[.v (.int .i64 v5)],[]⟩:=by
 unfold jW at hr
 have T:=an y33 <| @e_i.eq_1
 apply Spec.fn Try.func77 rfl
 focus (simp[Try.f77]<;>exact rfl)
 focus
  refine wA T (g:=?_)
  obtain⟨v10,h7,hr⟩:=bs hr
  refine TX.loopE (step:=dG v1 v2 v3 v4) (x:=0) h7 (fun v6=>⟨.U::.fptr true [.func 92 [] [.fptr true [.list 1 (v2.map e_i)] 0,.fptr true [.v (.int .i64 v3)] 0,.fptr true [.v (.int .i64 v4)] 0]] 0::.U::.U::.U::.v (.int .i64 v1)::.v (.int .i64 v6)::.U::.U::.U::.U::.U::.U::.U::.U::.U::[],[]⟩) (fun e=>match e with|(.inl v8)=>(.ret,⟨.U::.U::.v (.int .i64 v8)::.U::.U::.U::.U::.U::.U::.U::.U::.U::.U::.U::.U::.U::[],[]⟩)|(.inr _)=>(.exit 0,⟨.U::.U::.U::.U::.U::.U::.U::.U::.U::.U::.U::.U::.U::.U::.U::.U::[],[]⟩)) ?_ ?_ ?_ ?_
  ·rintro v6 v0 hr
   dsimp only[dG] at hr
   try dsimp only
   refine wa_ T (g:=?_)
   rcases ifs hr with⟨h4,hr⟩|⟨h4,hr⟩
   ·have T:=an h4 T
    refine wA T (g:=?_)
    obtain⟨v9,h5,hr⟩:=bs hr
    apply TO.cal (wn T) rfl aBL (pJ h5) rfl rfl rfl
    repeat exact sd T
    refine wa_ T (g:=?_)
    rcases ifs hr with⟨h6,hr⟩|⟨h6,hr⟩
    ·have T:=an h6 T
     refine wa_ T (g:=?_)
     cases hr
     refine⟨rfl,?_⟩
     exact wk_ T [] rfl .nil
    ·have T:=an h6 T
     refine wa_ T (g:=?_)
     cases hr
     refine⟨rfl,?_⟩
     exact wk_ T [] rfl .nil
   ·have T:=an h4 T
    refine wa_ T (g:=?_)
    cases hr
    refine⟨rfl,?_⟩
    exact wk_ T [] rfl .nil
  ·intro e h;rcases e with _|e<;>cases h
  ·try dsimp only
   rcases v10 with v11|_
   ·try dsimp only at hr
    try dsimp only
    refine wa_ T (g:=?_)
    cases hr
    refine⟨.inr rfl,_,(ry T),?_⟩
    exact wr [] rfl .nil
   ·try dsimp only at hr
    try dsimp only
    refine wa_ T (g:=?_)
    cases hr
    refine⟨.inr rfl,_,(ry T),?_⟩
    exact wr [] rfl .nil
  ·try dsimp only
   exact wr [] rfl .nil
 rfl
end Go.Rex
namespace Go.Rex
open Go.Proofs
open Go Go.Rex Go.RowKit
set_option maxRecDepth 100000
set_option maxHeartbeats 1000000
def y34:=an @ag61 <| an @cs61 <| an @ok61 <| an @so92 <| an @bF <| an @kW <| an @qX <| @xZ
theorem qY{v1:Bool}{v2:Int}{v3:Bool}{v4:Int}{v5:Int}{v6:(List Int)}{v7:Int}{v8:Int}{v9:Bool}{v10:Int}{v11:Int}(hr:iJ v1 v2 v3 v4 v5 v6 v7 v8 v9 v10=some (v11)):Spec (lim Try.prog) 22 [.list 1 [[.func 61 [] [.fptr true [.v (.bool v1)] 0,.fptr true [.v (.int .i64 v2)] 0]],[.func 61 [] [.fptr true [.v (.bool v3)] 0,.fptr true [.v (.int .i64 v4)] 0]],[.func 77 [] [.fptr true [.v (.int .i64 v5)] 0,.fptr true [.func 92 [] [.fptr true [.list 1 (v6.map e_i)] 0,.fptr true [.v (.int .i64 v7)] 0,.fptr true [.v (.int .i64 v8)] 0]] 0]],[.func 61 [] [.fptr true [.v (.bool v9)] 0,.fptr true [.v (.int .i64 v10)] 0]]]] ⟨[.v (.int .i64 v11)],[]⟩:=by
 unfold iJ at hr
 have T:=an y34 <| @e_i.eq_1
 apply Spec.fn Try.func22 rfl
 focus (simp[Try.f22]<;>exact rfl)
 focus
  refine wc_ T (g:=?_)
  refine TX.unroll ?_
  repeat (first|(with_reducible first|refine mv ?_|refine m12 rfl ?_|refine TO.nil ?_)|((with_reducible first|apply TO.bin|apply TO.ia|apply TO.ld|apply TO.asg|apply TO.mv);(repeat (focus (show _=_;first|exact k1 rfl|exact k2 rfl|(simp only[zz,y34,e_i,Nat.reduceAdd,Nat.reduceMul,Nat.reduceLeDiff,Nat.reduceEqDiff,aB,z5,Int.reduceToNat,Int.reduceLE,Int.reduceLT,Int.cast_ofNat_Int,tload,aN,aP,List.getElem?_map]<;>exact rfl)|exact rfl)));(with_reducible apply TO.here))|((with_reducible apply TX.region);(focus (simp only[zl]<;>exact rfl));(focus rfl);(try dsimp only))|((with_reducible apply TX.cond_true);(focus rfl);(focus (first|rfl|(simp only[z1,zn];done))))|((with_reducible apply TX.cond_false);(focus rfl);(focus (first|rfl|(simp only[z1,zn];done))))|fail)
  obtain⟨v12,h1,hr⟩:=bs hr
  apply TO.cal (wn T) rfl jT (aC h1) rfl rfl rfl
  repeat exact sd T
  refine wa_ T (g:=?_)
  rcases ifs hr with⟨h2,hr⟩|⟨h2,hr⟩
  ·have T:=an h2 T
   refine wa_ T (g:=?_)
   cases hr
   refine⟨.inr rfl,_,(ry T),?_⟩
   exact wk_ T [] rfl .nil
  ·have T:=an h2 T
   refine wa_ T (g:=?_)
   refine TX.unroll ?_
   repeat (first|(with_reducible first|refine mv ?_|refine m12 rfl ?_|refine TO.nil ?_)|((with_reducible first|apply TO.bin|apply TO.ia|apply TO.ld|apply TO.asg|apply TO.mv);(repeat (focus (show _=_;first|exact k1 rfl|exact k2 rfl|(simp only[zz,y34,e_i,Nat.reduceAdd,Nat.reduceMul,Nat.reduceLeDiff,Nat.reduceEqDiff,aB,z5,Int.reduceToNat,Int.reduceLE,Int.reduceLT,Int.cast_ofNat_Int,tload,aN,aP,List.getElem?_map,h2]<;>exact rfl)|exact rfl)));(with_reducible apply TO.here))|((with_reducible apply TX.region);(focus (simp only[zl]<;>exact rfl));(focus rfl);(try dsimp only))|((with_reducible apply TX.cond_true);(focus rfl);(focus (first|rfl|(simp only[z1,zn,h2];done))))|((with_reducible apply TX.cond_false);(focus rfl);(focus (first|rfl|(simp only[z1,zn,h2];done))))|fail)
   obtain⟨v13,h3,hr⟩:=bs hr
   apply TO.cal (wn T) rfl jT (aC h3) rfl rfl rfl
   repeat exact sd T
   refine wa_ T (g:=?_)
   rcases ifs hr with⟨h4,hr⟩|⟨h4,hr⟩
   ·have T:=an h4 T
    refine wa_ T (g:=?_)
    cases hr
    refine⟨.inr rfl,_,(ry T),?_⟩
    exact wk_ T [] rfl .nil
   ·have T:=an h4 T
    refine wa_ T (g:=?_)
    refine TX.unroll ?_
    repeat (first|(with_reducible first|refine mv ?_|refine m12 rfl ?_|refine TO.nil ?_)|((with_reducible first|apply TO.bin|apply TO.ia|apply TO.ld|apply TO.asg|apply TO.mv);(repeat (focus (show _=_;first|exact k1 rfl|exact k2 rfl|(simp only[zz,y34,e_i,Nat.reduceAdd,Nat.reduceMul,Nat.reduceLeDiff,Nat.reduceEqDiff,aB,z5,Int.reduceToNat,Int.reduceLE,Int.reduceLT,Int.cast_ofNat_Int,tload,aN,aP,List.getElem?_map,h2,h4]<;>exact rfl)|exact rfl)));(with_reducible apply TO.here))|((with_reducible apply TX.region);(focus (simp only[zl]<;>exact rfl));(focus rfl);(try dsimp only))|((with_reducible apply TX.cond_true);(focus rfl);(focus (first|rfl|(simp only[z1,zn,h2,h4];done))))|((with_reducible apply TX.cond_false);(focus rfl);(focus (first|rfl|(simp only[z1,zn,h2,h4];done))))|fail)
    obtain⟨v14,h5,hr⟩:=bs hr
    apply TO.cal (wn T) rfl Qr (sB h5) rfl rfl rfl
    repeat exact sd T
    refine wa_ T (g:=?_)
    rcases ifs hr with⟨h6,hr⟩|⟨h6,hr⟩
    ·have T:=an h6 T
     refine wa_ T (g:=?_)
     cases hr
     refine⟨.inr rfl,_,(ry T),?_⟩
     exact wk_ T [] rfl .nil
    ·have T:=an h6 T
     refine wa_ T (g:=?_)
     refine TX.unroll ?_
     repeat (first|(with_reducible first|refine mv ?_|refine m12 rfl ?_|refine TO.nil ?_)|((with_reducible first|apply TO.bin|apply TO.ia|apply TO.ld|apply TO.asg|apply TO.mv);(repeat (focus (show _=_;first|exact k1 rfl|exact k2 rfl|(simp only[zz,y34,e_i,Nat.reduceAdd,Nat.reduceMul,Nat.reduceLeDiff,Nat.reduceEqDiff,aB,z5,Int.reduceToNat,Int.reduceLE,Int.reduceLT,Int.cast_ofNat_Int,tload,aN,aP,List.getElem?_map,h2,h4,h6]<;>exact rfl)|exact rfl)));(with_reducible apply TO.here))|((with_reducible apply TX.region);(focus (simp only[zl]<;>exact rfl));(focus rfl);(try dsimp only))|((with_reducible apply TX.cond_true);(focus rfl);(focus (first|rfl|(simp only[z1,zn,h2,h4,h6];done))))|((with_reducible apply TX.cond_false);(focus rfl);(focus (first|rfl|(simp only[z1,zn,h2,h4,h6];done))))|fail)
     obtain⟨v15,h7,hr⟩:=bs hr
     apply TO.cal (wn T) rfl jT (aC h7) rfl rfl rfl
     repeat exact sd T
     refine wa_ T (g:=?_)
     rcases ifs hr with⟨h8,hr⟩|⟨h8,hr⟩
     ·have T:=an h8 T
      refine wa_ T (g:=?_)
      cases hr
      refine⟨.inr rfl,_,(ry T),?_⟩
      exact wk_ T [] rfl .nil
     ·have T:=an h8 T
      refine wa_ T (g:=?_)
      refine TX.unroll ?_
      refine wa_ T (g:=?_)
      cases hr
      refine⟨.inr rfl,_,(ry T),?_⟩
      exact wk_ T [] rfl .nil
 rfl
end Go.Rex
namespace Go.Rex
open Go.Proofs
open Go Go.Rex Go.RowKit
set_option maxRecDepth 100000
set_option maxHeartbeats 200000
def y35:=an @ag23 <| an @ag3 <| an @cs61 <| an @tM <| an @Aq <| an @so23 <| an @so92 <| @zc61
theorem rG{v1:Int}{v2:(List Int)}{v3:Int}(hr:fY v1 v2=some (v3)):Spec (lim Try.prog) 58 [.agg [.v (.int .i64 v1),.list 1 (v2.map e_i)]] ⟨[.v (.int .i64 v3)],[]⟩:=by
 unfold fY at hr
 have T:=an y35 <| @e_i.eq_1
 apply Spec.fn Try.func58 rfl
 focus (simp[Try.f58]<;>exact rfl)
 focus
  refine wB T (g:=?_)
  obtain⟨⟨v4,v5⟩,h1,hr⟩:=bs hr
  try dsimp only at hr
  apply TD.cal (wn T) rfl vG (dB h1) rfl rfl rfl
  repeat exact sd T
  refine wC T (g:=?_)
  obtain⟨⟨v6,v7⟩,h2,hr⟩:=bs hr
  try dsimp only at hr
  apply TD.cal (wn T) rfl gQ (aF h2) rfl rfl rfl
  repeat exact sd T
  refine wA T (g:=?_)
  obtain⟨⟨v8,v9,v10,v11⟩,h3,hr⟩:=bs hr
  try dsimp only at hr
  apply TD.cal (wn T) rfl aBR (uH h3) rfl rfl rfl
  repeat exact sd T
  refine wA T (g:=?_)
  obtain⟨v12,h4,hr⟩:=bs hr
  apply TD.cal (wn T) rfl aCw (pK h4) rfl rfl rfl
  repeat exact sd T
  refine wa_ T (g:=?_)
  apply TD.pop1 (wn T) (dM rfl)
  repeat exact sd T
  refine wa_ T (g:=?_)
  obtain⟨⟨v13,v14⟩,h5,hr⟩:=bs hr
  try dsimp only at hr
  apply TD.cal (wn T) rfl gQ (aF h5) rfl rfl rfl
  repeat exact sd T
  refine we_ T (g:=?_)
  obtain⟨v15,h6,hr⟩:=bs hr
  apply TD.cal (wn T) rfl nZ (qY h6) rfl rfl rfl
  repeat exact sd T
  refine wa_ T (g:=?_)
  cases hr
  refine⟨.inr rfl,_,(ry T),?_⟩
  exact wr [] rfl .nil
 rfl
def y36:=an @ag25 <| an @cs25 <| an @Rt <| @ok25
theorem gP{v1:Int}{v2:(List Int)}{v3:Int}(hr:cC v1 v2=some (v3)):Spec (lim Try.prog) 28 [.agg [.v (.int .i64 v1),.list 1 (v2.map e_i)]] ⟨[.v (.int .i64 v3)],[]⟩:=by
 unfold cC at hr
 have T:=an y36 <| @e_i.eq_1
 apply Spec.fn Try.func28 rfl
 focus (simp[Try.f28]<;>exact rfl)
 focus
  refine wB T (g:=?_)
  obtain⟨v4,h1,hr⟩:=bs hr
  apply TO.cal (wn T) rfl aCh (rG h1) rfl rfl rfl
  repeat exact sd T
  refine wa_ T (g:=?_)
  cases hr
  refine⟨.inr rfl,_,(ry T),?_⟩
  exact wr [] rfl .nil
 rfl
def y37:=an @ag3 <| an @tM <| @Rt
theorem aL{v1:Int}{v2:(List Int)}{v3:Int}(hr:aE v1 v2=some (v3)):Spec (lim Try.prog) 33 [.agg [.v (.int .i64 v1),.list 1 (v2.map e_i)]] ⟨[.v (.int .i64 v3)],[]⟩:=by
 unfold aE at hr
 have T:=an y37 <| @e_i.eq_1
 apply Spec.fn Try.func33 rfl
 focus (simp[Try.f33]<;>exact rfl)
 focus
  refine wB T (g:=?_)
  obtain⟨v4,h1,hr⟩:=bs hr
  apply TO.pop1 (wn T) (vY rfl rfl (by decide) (h1))
  repeat exact sd T
  refine wa_ T (g:=?_)
  cases hr
  refine⟨.inr rfl,_,(ry T),?_⟩
  exact wr [] rfl .nil
 rfl
def y38:=an @ag3 <| an @ag69 <| an @cs69 <| @ok69
theorem cV{v1:Int}{v2:Int}{v3:(List Int)}{v4:Int}(hr:aR v1 v2 v3=some (v4)):Spec (lim Try.prog) 59 [.fptr true [.v (.int .i64 v1)] 0,.fptr true [.v (.int .i64 v2),.list 1 (v3.map e_i)] 0] ⟨[.v (.int .i64 v4)],[]⟩:=by
 unfold aR at hr
 have T:=an y38 <| @e_i.eq_1
 apply Spec.fn Try.func59 rfl
 focus (simp[Try.f59]<;>exact rfl)
 focus
  refine wA T (g:=?_)
  obtain⟨v5,h1,hr⟩:=bs hr
  apply TD.cal (wn T) rfl vM (aL h1) rfl rfl rfl
  repeat exact sd T
  refine wa_ T (g:=?_)
  obtain⟨⟨v6,v7⟩,h2,hr⟩:=bs hr
  try dsimp only at hr
  apply TD.cal (wn T) rfl vG (dB h2) rfl rfl rfl
  repeat exact sd T
  refine wa_ T (g:=?_)
  obtain⟨v8,h3,hr⟩:=bs hr
  apply TD.cal (wn T) rfl jT (aC h3) rfl rfl rfl
  repeat exact sd T
  refine wa_ T (g:=?_)
  cases hr
  refine⟨.inr rfl,_,(ry T),?_⟩
  exact wr [] rfl .nil
 rfl
def y39:=an @ag23 <| an @ag3 <| an @cs3 <| an @tM <| an @Aq <| an @Rt <| an @ok3 <| an @so23 <| @bF
theorem lP{v1:Int}{v2:(List Int)}{v3:Int}{v4:Int}(hr:dS v1 v2 v3=some (v4)):Spec (lim Try.prog) 94 [.agg [.v (.int .i64 v1),.list 1 (v2.map e_i)],.v (.int .i64 v3)] ⟨[.v (.int .i64 v4)],[]⟩:=by
 unfold dS at hr
 have T:=an y39 <| @e_i.eq_1
 apply Spec.fn Try.func94 rfl
 focus (simp[Try.f94]<;>exact rfl)
 focus
  refine wD T (g:=?_)
  obtain⟨v12,h7,hr⟩:=bs hr
  refine TX.loopE (step:=cK v1 v2 v3) (x:=(0,0)) h7 (fun (v5,v6)=>⟨.U::.v (.int .i64 v3)::.fptr true [.v (.int .i64 v1),.list 1 (v2.map e_i)] 0::.U::.U::.v (.int .i64 v5)::.U::.U::.U::.U::.list 1 (v2.map e_i)::.v (.int .i64 (v2.length:Int))::.v (.int .i64 v6)::.U::.U::.U::.U::.U::.U::.U::.U::.U::.U::.U::.U::.U::.U::.U::.U::.U::.U::.U::.U::.U::.U::.U::[],[]⟩) (fun v9=>(.exit 0,⟨.U::.v (.int .i64 v3)::.fptr true [.v (.int .i64 v1),.list 1 (v2.map e_i)] 0::.U::.U::.v (.int .i64 v9)::.U::.U::.U::.U::.U::.U::.U::.U::.U::.U::.U::.U::.U::.U::.U::.U::.U::.U::.U::.U::.U::.U::.U::.U::.U::.U::.U::.U::.U::.U::[],[]⟩)) ?_ ?_ ?_ ?_
  ·rintro⟨v5,v6⟩ v0 hr
   dsimp only[cK] at hr
   try dsimp only
   refine wa_ T (g:=?_)
   rcases ifs hr with⟨h4,hr⟩|⟨h4,hr⟩
   ·have T:=an h4 T
    refine wa_ T (g:=?_)
    obtain⟨v10,h5,hr⟩:=bs hr
    have T:=an (gx e_i h5) T
    refine wA T (g:=?_)
    obtain⟨v11,h6,hr⟩:=bs hr
    apply TO.pop1 (wn T) (vY rfl rfl (by decide) (h6))
    repeat exact sd T
    refine wa_ T (g:=?_)
    apply TO.pop1 (wn T) (uP rfl rfl (by decide))
    repeat exact sd T
    refine wa_ T (g:=?_)
    apply TO.pop1 (wn T) (uP rfl rfl (by decide))
    repeat exact sd T
    refine wa_ T (g:=?_)
    cases hr
    refine⟨rfl,?_⟩
    exact wk_ T [] rfl .nil
   ·have T:=an h4 T
    refine wa_ T (g:=?_)
    cases hr
    refine⟨rfl,?_⟩
    exact wk_ T [] rfl .nil
  ·intro e h;cases h
  ·try dsimp only
   refine wa_ T (g:=?_)
   obtain⟨v13,h8,hr⟩:=bs hr
   apply TO.pop1 (wn T) (vY rfl rfl (by decide) (h8))
   repeat exact sd T
   refine wA T (g:=?_)
   obtain⟨v14,h9,hr⟩:=bs hr
   apply TO.pop1 (wn T) (vY rfl rfl (by decide) (h9))
   repeat exact sd T
   refine wa_ T (g:=?_)
   apply TO.pop1 (wn T) (uP rfl rfl (by decide))
   repeat exact sd T
   refine wa_ T (g:=?_)
   cases hr
   refine⟨.inr rfl,_,(ry T),?_⟩
   exact wr [] rfl .nil
  ·try dsimp only
   exact wr [] rfl .nil
 rfl
theorem kP{v1:Int}{v2:(List Int)}{v3:Int}{v4:Int}{v5:Int}{v6:(List Int)}(hr:eC v1 v2 v3=some (v4,v5,v6)):Spec (lim Try.prog) 87 [.agg [.v (.int .i64 v1),.list 1 (v2.map e_i)],.v (.int .i64 v3)] ⟨[.func 95 [] [.fptr true [.v (.int .i64 v4)] 0,.fptr true [.v (.int .i64 v5),.list 1 (v6.map e_i)] 0]],[]⟩:=by
 unfold eC at hr
 have T:=@e_i.eq_1
 apply Spec.fn Try.func87 rfl
 focus (simp[Try.f87]<;>exact rfl)
 focus
  refine wb_ T (g:=?_)
  cases hr
  refine⟨.inr rfl,_,(ry T),?_⟩
  exact wr [] rfl .nil
 rfl
def y40:=an @ag3 <| an @ag69 <| an @cs69 <| @ok69
theorem fX{v1:Int}{v2:Int}{v3:(List Int)}:ISpec (lim Try.prog) 95 [] [.fptr true [.v (.int .i64 v1)] 0,.fptr true [.v (.int .i64 v2),.list 1 (v3.map e_i)] 0] (fun a0=>[.v (.int .i64 a0)]) (fun {X}=>aK (X:=X) v1 v2 v3):=by
 refine ISpec.fn (tms:=fun l=>[.v (.func (.yield l) #[] #[]),.fptr true [.v (.int .i64 v1)] 0,.fptr true [.v (.int .i64 v2),.list 1 (v3.map e_i)] 0,.U,.U,.U,.U,.U,.U,.U,.U,.U]) Try.func95 rfl rfl (fun l=>by simp[Try.f95]<;>exact rfl) ?_
 intro X O l H v4 xx hY hr
 dsimp only[aK] at hr
 try dsimp only
 repeat (first|(with_reducible first|refine mv ?_|refine m12 rfl ?_)|fail)
 refine TI.of ?_
 repeat (first|(with_reducible first|refine mv ?_|refine m12 rfl ?_|refine TO.nil ?_)|((with_reducible first|apply TO.ld|apply TO.asg);(repeat (focus (show _=_;first|exact k1 rfl|exact k2 rfl|(simp only[zz,y40,e_i,Nat.reduceAdd,Nat.reduceMul,Nat.reduceLeDiff,Nat.reduceEqDiff,tload,aN,aP,List.getElem?_map]<;>exact rfl)|exact rfl)));(with_reducible apply TO.here))|((with_reducible apply TX.region);(focus (simp only[zl]<;>exact rfl));(focus rfl);(try dsimp only))|fail)
 refine⟨[.v (.func (.yield l) #[] #[]),.fptr true [.v (.int .i64 v1)] 0,.fptr true [.v (.int .i64 v2),.list 1 (v3.map e_i)] 0,.U,.v (.int .i64 v1),.v (.int .i64 v1),.U,.U,.U,.U,.U,.U],?_,?_⟩
 ·exact wr [] rfl .nil
 repeat (first|(with_reducible first|refine mv ?_|refine m12 rfl ?_)|fail)
 obtain⟨v14,h7,hr⟩:=Option.bind_eq_some_iff.1 hr
 try dsimp only at hr
 refine TI.loopW (step:=aV H v2 v3) (y:=(v1,v4)) h7 (fun (v5,v6)=>([.v (.func (.yield l) #[] #[]),.U,.fptr true [.v (.int .i64 v2),.list 1 (v3.map e_i)] 0,.U,.v (.int .i64 v5),.U,.U,.U,.U,.U,.U,.U],v6)) (fun v10=>(.exit 0,([.U,.U,.U,.U,.U,.U,.U,.U,.U,.U,.U,.U],v10))) ?_ rfl ?_ ?_ ?_
 ·try dsimp only
  exact wr [] rfl .nil
 ·rintro⟨v5,v6⟩ v0 hr
  dsimp only[aV] at hr
  try dsimp only
  repeat (first|(with_reducible first|refine mv ?_|refine m12 rfl ?_)|fail)
  refine TI.yield 2 hY (by simp only[zl]<;>exact rfl) (by simp only[List.take_succ_cons,List.take_zero]<;>exact rfl) (by exact rfl) ⟨⟨_,_,_,_,_,rfl⟩⟩ rfl ?_
  try dsimp only
  repeat (first|(with_reducible first|refine mv ?_|refine m12 rfl ?_|refine TO.nil ?_)|((with_reducible first|apply TO.mv);(repeat (focus (show _=_;first|exact k1 rfl|exact k2 rfl|(simp only[zz,y40,e_i,Nat.reduceAdd,Nat.reduceMul,Nat.reduceLeDiff,Nat.reduceEqDiff]<;>exact rfl)|exact rfl)));(with_reducible apply TO.here))|((with_reducible apply TX.region);(focus (simp only[zl]<;>exact rfl));(focus rfl);(try dsimp only))|fail)
  obtain⟨⟨v11,v12⟩,h4,hr⟩:=Option.bind_eq_some_iff.1 hr
  try dsimp only at hr
  refine⟨[.v (.func (.yield l) #[] #[]),.U,.fptr true [.v (.int .i64 v2),.list 1 (v3.map e_i)] 0,.U,.v (.int .i64 v5),.U,.v (.func (.yield l) #[] #[]),.v (.int .i64 v5),.U,.U,.U,.U],?_,.inl ⟨v5,v11,v12,by first|rfl|(simp only[twant,z1,z7]<;>rfl),rfl,rfl,h4,?_⟩⟩
  ·exact wr [] rfl .nil
  show TO _ _ _ _ ⟨.v (.func (.yield l) #[] #[])::.U::.fptr true [.v (.int .i64 v2),.list 1 (v3.map e_i)] 0::.U::.v (.int .i64 v5)::.U::.v (.func (.yield l) #[] #[])::.v (.int .i64 v5)::.v (.bool v11)::.U::.U::.U::[],[]⟩ _
  repeat (first|(with_reducible first|refine mv ?_|refine m12 rfl ?_|refine TO.nil ?_)|((with_reducible apply TX.region);(focus (simp only[zl]<;>exact rfl));(focus rfl);(try dsimp only))|fail)
  refine⟨[.v (.func (.yield l) #[] #[]),.U,.fptr true [.v (.int .i64 v2),.list 1 (v3.map e_i)] 0,.U,.v (.int .i64 v5),.U,.v (.func (.yield l) #[] #[]),.v (.int .i64 v5),.v (.bool v11),.U,.U,.U],?_,?_⟩
  ·exact wr [] rfl .nil
  repeat (first|(with_reducible first|refine mv ?_|refine m12 rfl ?_)|((with_reducible apply TX.cond_true);(focus rfl);(focus (first|rfl|(simp only[z1,zn];done))))|((with_reducible apply TX.cond_false);(focus rfl);(focus (first|rfl|(simp only[z1,zn];done))))|((with_reducible apply TI.cond_true);(focus rfl);(focus (first|rfl|(simp only[z1,zn];done))))|((with_reducible apply TI.cond_false);(focus rfl);(focus (first|rfl|(simp only[z1,zn];done))))|fail)
  rcases Bool.eq_false_or_eq_true (v11) with h5|h5
  ·rw[if_pos h5] at hr
   repeat (first|(with_reducible first|refine mv ?_|refine m12 rfl ?_)|((with_reducible apply TX.cond_true);(focus rfl);(focus (first|rfl|(simp only[z1,zn,h5];done))))|((with_reducible apply TX.cond_false);(focus rfl);(focus (first|rfl|(simp only[z1,zn,h5];done))))|((with_reducible apply TI.cond_true);(focus rfl);(focus (first|rfl|(simp only[z1,zn,h5];done))))|((with_reducible apply TI.cond_false);(focus rfl);(focus (first|rfl|(simp only[z1,zn,h5];done))))|fail)
   refine TI.of ?_
   repeat (first|(with_reducible first|refine mv ?_|refine m12 rfl ?_|refine TO.nil ?_)|((with_reducible first|apply TO.ld|apply TO.mv);(repeat (focus (show _=_;first|exact k1 rfl|exact k2 rfl|(simp only[zz,y40,e_i,Nat.reduceAdd,Nat.reduceMul,Nat.reduceLeDiff,Nat.reduceEqDiff,tload,aN,aP,List.getElem?_map,h5]<;>exact rfl)|exact rfl)));(with_reducible apply TO.here))|((with_reducible apply TX.region);(focus (simp only[zl]<;>exact rfl));(focus rfl);(try dsimp only))|fail)
   obtain⟨v13,h6,hr⟩:=Option.bind_eq_some_iff.1 hr
   try dsimp only at hr
   apply TO.cal (by first|rfl|(simp only[twant,z1,z7,h5]<;>rfl)) rfl aAh (lP h6) rfl rfl rfl
   (repeat (focus (show _=_;first|exact k1 rfl|exact k2 rfl|(simp only[zz,y40,e_i,Nat.reduceAdd,Nat.reduceMul,Nat.reduceLeDiff,Nat.reduceEqDiff,shift,kill,pN,frz,Ll,view,tml,tmlc,List.length_set,h5]<;>exact rfl)|exact rfl)))
   with_reducible apply TO.here
   repeat (first|(with_reducible first|refine mv ?_|refine m12 rfl ?_|refine TO.nil ?_)|((with_reducible first|apply TO.asg);(repeat (focus (show _=_;first|exact k1 rfl|exact k2 rfl|(simp only[zz,y40,e_i,Nat.reduceAdd,Nat.reduceMul,Nat.reduceLeDiff,Nat.reduceEqDiff,h5]<;>exact rfl)|exact rfl)));(with_reducible apply TO.here))|((with_reducible apply TX.region);(focus (simp only[zl]<;>exact rfl));(focus rfl);(try dsimp only))|fail)
   refine⟨[.v (.func (.yield l) #[] #[]),.U,.fptr true [.v (.int .i64 v2),.list 1 (v3.map e_i)] 0,.U,.v (.int .i64 v13),.U,.v (.func (.yield l) #[] #[]),.v (.int .i64 v5),.v (.bool v11),.agg [.v (.int .i64 v2),.list 1 (v3.map e_i)],.v (.int .i64 v5),.v (.int .i64 v13)],?_,?_⟩
   ·exact Wk.ren [] rfl .nil (by (repeat (first|exact RNs.nil|refine RNs.cons .U ?_|refine RNs.cons (.keep rfl rfl) ?_|refine RNs.cons (.lsl rfl rfl) ?_|refine RNs.cons (.lsl rfl (by simp only[List.length_set])) ?_|refine RNs.cons (.lptr rfl) ?_|refine RNs.cons (.nil rfl) ?_|refine RNs.cons .nl ?_|refine RNs.cons (.keep (by simp only[h5]) rfl) ?_|refine RNs.cons (.tuple' ?_) ?_|refine RNs.cons (.agg' ?_) ?_)))
   repeat (first|(with_reducible first|refine mv ?_|refine m12 rfl ?_)|fail)
   cases hr
   refine⟨rfl,?_,rfl⟩
   exact Wk.ren [] rfl .nil (by (repeat (first|exact RNs.nil|refine RNs.cons .U ?_|refine RNs.cons (.keep rfl rfl) ?_|refine RNs.cons (.lsl rfl rfl) ?_|refine RNs.cons (.lsl rfl (by simp only[List.length_set])) ?_|refine RNs.cons (.lptr rfl) ?_|refine RNs.cons (.nil rfl) ?_|refine RNs.cons .nl ?_|refine RNs.cons (.keep (by simp only[h5]) rfl) ?_|refine RNs.cons (.tuple' ?_) ?_|refine RNs.cons (.agg' ?_) ?_)))
  ·rw[if_neg (by rw[h5];exact Bool.false_ne_true)] at hr
   repeat (first|(with_reducible first|refine mv ?_|refine m12 rfl ?_)|((with_reducible apply TX.cond_true);(focus rfl);(focus (first|rfl|(simp only[z1,zn,h5];done))))|((with_reducible apply TX.cond_false);(focus rfl);(focus (first|rfl|(simp only[z1,zn,h5];done))))|((with_reducible apply TI.cond_true);(focus rfl);(focus (first|rfl|(simp only[z1,zn,h5];done))))|((with_reducible apply TI.cond_false);(focus rfl);(focus (first|rfl|(simp only[z1,zn,h5];done))))|fail)
   cases hr
   refine⟨rfl,?_,rfl⟩
   exact Wk.ren [] rfl .nil (by (repeat (first|exact RNs.nil|refine RNs.cons .U ?_|refine RNs.cons (.keep rfl rfl) ?_|refine RNs.cons (.lsl rfl rfl) ?_|refine RNs.cons (.lsl rfl (by simp only[List.length_set])) ?_|refine RNs.cons (.lptr rfl) ?_|refine RNs.cons (.nil rfl) ?_|refine RNs.cons .nl ?_|refine RNs.cons (.keep (by simp only[h5]) rfl) ?_|refine RNs.cons (.tuple' ?_) ?_|refine RNs.cons (.agg' ?_) ?_)))
 ·intro e h;cases h
 ·try dsimp only
  repeat (first|(with_reducible first|refine mv ?_|refine m12 rfl ?_)|fail)
  cases hr
  exact⟨.inl rfl,rfl⟩
def y41:=an @ag3 <| an @ag69 <| an @cs3 <| an @cs69 <| an @ok3 <| an @ok69 <| an @zc3 <| @kW
theorem pU{v1:Int}{v2:(List Int)}{v3:Int}{v4:Int}(hr:eN v1 v2 v3=some (v4)):Spec (lim Try.prog) 82 [.agg [.v (.int .i64 v1),.list 1 (v2.map e_i)],.v (.int .i64 v3)] ⟨[.v (.int .i64 v4)],[]⟩:=by
 unfold eN at hr
 have T:=an y41 <| @e_i.eq_1
 apply Spec.fnM Try.func82 rfl
 focus (simp[Try.f82]<;>exact rfl)
 focus
  refine wB T (g:=?_)
  obtain⟨v5,h1,hr⟩:=bs hr
  apply TD.cal (wn T) rfl aAh (lP h1) rfl rfl rfl
  repeat exact sd T
  refine wa_ T (g:=?_)
  obtain⟨⟨v6,v7,v8⟩,h2,hr⟩:=bs hr
  try dsimp only at hr
  apply TD.cal (wn T) rfl Xj (kP h2) rfl rfl rfl
  repeat exact sd T
  refine wa_ T (g:=?_)
  obtain⟨v13,h5,hr⟩:=bs hr
  refine TM.weak (s':=⟨.U::.U::.U::.fptr true [.v (.int .i64 v3)] 0::.U::.lptr 0 0 0::.U::.U::.U::.U::.U::.func 95 [] [.fptr true [.v (.int .i64 v6)] 0,.fptr true [.v (.int .i64 v7),.list 1 (v8.map e_i)] 0]::.U::.U::.U::.U::.U::.U::.U::[],[.var [.v (.int .i64 1)]]⟩) ?_ ?_
  ·exact wr [some 0] rfl (rv .nil rfl)
  refine TM.range (it:=fun {X}=>aK v6 v7 v8) (enc:=fun a0=>[.v (.int .i64 a0)]) h5 (fun v9=>[.var [.v (.int .i64 v9)]]) (fun v11=>[.var [.v (.int .i64 v11)]]) (fun _=>.exit 0) rfl rfl Xw fX rfl rfl rfl (fun _=>rfl) (fun _=>.inr ⟨_,rfl⟩) ?_ ?_
  ·rintro v12 v9 r hr
   dsimp only[cW] at hr
   show TX _ _ _ ⟨.U::.U::.U::.fptr true [.v (.int .i64 v3)] 0::.U::.lptr 0 0 0::.U::.U::.U::.U::.U::.func 95 [] [.fptr true [.v (.int .i64 v6)] 0,.fptr true [.v (.int .i64 v7),.list 1 (v8.map e_i)] 0]::.v (.int .i64 v12)::.U::.U::.U::.U::.U::.U::[],[.var [.v (.int .i64 v9)]]⟩ _
   refine wa_ T (g:=?_)
   refine⟨rfl,?_⟩
   repeat (first|(with_reducible first|refine mv ?_|refine m12 rfl ?_|refine TO.nil ?_)|((with_reducible first|apply TO.mv|apply TO.ld|apply TO.bin);(repeat (focus (show _=_;first|exact k1 rfl|exact k2 rfl|(simp only[zz,y41,e_i,Nat.reduceAdd,Nat.reduceMul,Nat.reduceLeDiff,Nat.reduceEqDiff,tload,aN,aP,List.getElem?_map]<;>exact rfl)|exact rfl)));(with_reducible apply TO.here))|((with_reducible apply TX.region);(focus (simp only[zl]<;>exact rfl));(focus rfl);(try dsimp only))|((with_reducible apply TX.cond_true);(focus rfl);(focus (first|rfl|(simp only[z1,zn];done))))|((with_reducible apply TX.cond_false);(focus rfl);(focus (first|rfl|(simp only[z1,zn];done))))|((with_reducible apply TM.cond_true);(focus rfl);(focus (first|rfl|(simp only[z1,zn];done))))|((with_reducible apply TM.cond_false);(focus rfl);(focus (first|rfl|(simp only[z1,zn];done))))|fail)
   rcases ifs hr with⟨h4,hr⟩|⟨h4,hr⟩
   ·repeat (first|(with_reducible first|refine mv ?_|refine m12 rfl ?_)|((with_reducible apply TX.cond_true);(focus rfl);(focus (first|rfl|(simp only[z1,zn,h4];done))))|((with_reducible apply TX.cond_false);(focus rfl);(focus (first|rfl|(simp only[z1,zn,h4];done))))|((with_reducible apply TM.cond_true);(focus rfl);(focus (first|rfl|(simp only[z1,zn,h4];done))))|((with_reducible apply TM.cond_false);(focus rfl);(focus (first|rfl|(simp only[z1,zn,h4];done))))|fail)
    cases hr
    refine⟨rfl,?_⟩
    have T:=an h4 T
    exact wk_ T [some 0] rfl (rv .nil rfl)
   ·repeat (first|(with_reducible first|refine mv ?_|refine m12 rfl ?_|refine TO.nil ?_)|((with_reducible first|apply TO.ld|apply TO.bin|apply TO.sv);(repeat (focus (show _=_;first|exact k1 rfl|exact k2 rfl|(simp only[zz,y41,e_i,Nat.reduceAdd,Nat.reduceMul,Nat.reduceLeDiff,Nat.reduceEqDiff,tload,aN,aP,List.getElem?_map,h4]<;>exact rfl)|exact rfl)));(with_reducible apply TO.here))|((with_reducible apply TX.region);(focus (simp only[zl]<;>exact rfl));(focus rfl);(try dsimp only))|((with_reducible apply TX.cond_true);(focus rfl);(focus (first|rfl|(simp only[z1,zn,h4];done))))|((with_reducible apply TX.cond_false);(focus rfl);(focus (first|rfl|(simp only[z1,zn,h4];done))))|((with_reducible apply TM.cond_true);(focus rfl);(focus (first|rfl|(simp only[z1,zn,h4];done))))|((with_reducible apply TM.cond_false);(focus rfl);(focus (first|rfl|(simp only[z1,zn,h4];done))))|fail)
    cases hr
    refine⟨rfl,?_⟩
    have T:=an h4 T
    exact wk_ T [some 0] rfl (rv .nil rfl)
  ·rcases v13 with v14|v15
   ·try dsimp only at hr
    try dsimp only
    refine wA T (g:=?_)
    cases hr
    refine⟨.inr rfl,_,(ry T),?_⟩
    exact wr [] rfl .nil
   ·try dsimp only at hr
    try dsimp only
    refine wA T (g:=?_)
    cases hr
    refine⟨.inr rfl,_,(ry T),?_⟩
    exact wr [] rfl .nil
 rfl
def y42:=an @ag69 <| an @cs69 <| @ok69
theorem oD{v1:Int}{v2:(List Int)}{v3:Bool}(hr:eY v1 v2=some (v3)):Spec (lim Try.prog) 60 [.agg [.v (.int .i64 v1),.list 1 (v2.map e_i)]] ⟨[.v (.bool v3)],[]⟩:=by
 unfold eY at hr
 have T:=an y42 <| @e_i.eq_1
 apply Spec.fn Try.func60 rfl
 focus (simp[Try.f60]<;>exact rfl)
 focus
  refine wB T (g:=?_)
  obtain⟨v4,h1,hr⟩:=bs hr
  apply TD.cal (wn T) rfl aCy (pU h1) rfl rfl rfl
  repeat exact sd T
  refine wA T (g:=?_)
  obtain⟨v5,h2,hr⟩:=bs hr
  apply TD.cal (wn T) rfl vM (aL h2) rfl rfl rfl
  repeat exact sd T
  refine wa_ T (g:=?_)
  cases hr
  refine⟨.inr rfl,_,(ry T),?_⟩
  exact wr [] rfl .nil
 rfl
def y43:=an @ag69 <| an @cs69 <| @ok69
theorem kE{v1:Int}{v2:(List Int)}{v3:Int}(hr:cG v1 v2=some (v3)):Spec (lim Try.prog) 30 [.agg [.v (.int .i64 v1),.list 1 (v2.map e_i)]] ⟨[.v (.int .i64 v3)],[]⟩:=by
 unfold cG at hr
 have T:=an y43 <| @e_i.eq_1
 apply Spec.fn Try.func30 rfl
 focus (simp[Try.f30]<;>exact rfl)
 focus
  refine wB T (g:=?_)
  obtain⟨v4,h1,hr⟩:=bs hr
  apply TO.cal (wn T) rfl aCg (oD h1) rfl rfl rfl
  repeat exact sd T
  refine wa_ T (g:=?_)
  apply TO.pop1 (wn T) (dM rfl)
  repeat exact sd T
  refine wa_ T (g:=?_)
  obtain⟨⟨v5,v6⟩,h2,hr⟩:=bs hr
  try dsimp only at hr
  apply TO.cal (wn T) rfl gQ (aF h2) rfl rfl rfl
  repeat exact sd T
  refine wa_ T (g:=?_)
  obtain⟨v7,h3,hr⟩:=bs hr
  apply TO.cal (wn T) rfl jT (aC h3) rfl rfl rfl
  repeat exact sd T
  refine wa_ T (g:=?_)
  cases hr
  refine⟨.inr rfl,_,(ry T),?_⟩
  exact wr [] rfl .nil
 rfl
def y44:=an @ag32 <| an @ag69 <| an @cs69 <| an @ok69 <| @so32
theorem pQ{v1:(List (Nat×Nat))}{v2:Int}{v3:(List Int)}{v4:Int}(hr:eJ v1 v2 v3=some (v4)):Spec (lim Try.prog) 31 [.fptr true [.list 1 (v1.map e_c)] 0,.fptr true [.v (.int .i64 v2),.list 1 (v3.map e_i)] 0] ⟨[.v (.int .i64 v4)],[]⟩:=by
 unfold eJ at hr
 have T:=an y44 <| an @e_c.eq_1 <| @e_i.eq_1
 apply Spec.fn Try.func31 rfl
 focus (simp[Try.f31]<;>exact rfl)
 focus
  refine wC T (g:=?_)
  obtain⟨v5,h1,hr⟩:=bs hr
  apply TD.cal (wn T) rfl vM (aL h1) rfl rfl rfl
  repeat exact sd T
  refine wa_ T (g:=?_)
  obtain⟨⟨v6,v7⟩,h2,hr⟩:=bs hr
  try dsimp only at hr
  apply TD.cal (wn T) rfl gQ (aF h2) rfl rfl rfl
  repeat exact sd T
  refine wa_ T (g:=?_)
  obtain⟨v8,h3,hr⟩:=bs hr
  apply TD.cal (wn T) rfl jT (aC h3) rfl rfl rfl
  repeat exact sd T
  refine wa_ T (g:=?_)
  cases hr
  refine⟨.inr rfl,_,(ry T),?_⟩
  exact wr [] rfl .nil
 rfl
end Go.Rex
namespace Go.Rex
open Go.Proofs
open Go Go.Rex Go.RowKit
set_option maxRecDepth 100000
set_option maxHeartbeats 1000000
def y45:=an @ag61 <| an @cs61 <| an @ok61 <| an @so92 <| an @bF <| an @kW <| an @qX <| an @xZ <| @Dg
theorem qB{v1:(List (Nat×Nat))}{v2:Int}{v3:(List Int)}{v4:Int}{v5:Int}{v6:(List Int)}{v7:Int}{v8:(List Int)}{v9:(List (Nat×Nat))}{v10:Int}{v11:(List Int)}{v12:Int}(hr:iG v1 v2 v3 v4 v5 v6 v7 v8 v9 v10 v11=some (v12)):Spec (lim Try.prog) 22 [.list 1 [[.func 54 [] [.fptr true [.list 1 (v1.map e_c)] 0]],[.func 28 [.agg [.v (.int .i64 v2),.list 1 (v3.map e_i)]] []],[.func 59 [] [.fptr true [.v (.int .i64 v4)] 0,.fptr true [.v (.int .i64 v5),.list 1 (v6.map e_i)] 0]],[.func 30 [.agg [.v (.int .i64 v7),.list 1 (v8.map e_i)]] []],[.func 31 [] [.fptr true [.list 1 (v9.map e_c)] 0,.fptr true [.v (.int .i64 v10),.list 1 (v11.map e_i)] 0]]]] ⟨[.v (.int .i64 v12)],[]⟩:=by
 unfold iG at hr
 have T:=an y45 <| an @e_c.eq_1 <| @e_i.eq_1
 apply Spec.fn Try.func22 rfl
 focus (simp[Try.f22]<;>exact rfl)
 focus
  refine wc_ T (g:=?_)
  refine TX.unroll ?_
  repeat (first|(with_reducible first|refine mv ?_|refine m12 rfl ?_|refine TO.nil ?_)|((with_reducible first|apply TO.bin|apply TO.ia|apply TO.ld|apply TO.asg|apply TO.mv);(repeat (focus (show _=_;first|exact k1 rfl|exact k2 rfl|(simp only[zz,y45,e_c,e_i,Nat.reduceAdd,Nat.reduceMul,Nat.reduceLeDiff,Nat.reduceEqDiff,aB,z5,Int.reduceToNat,Int.reduceLE,Int.reduceLT,Int.cast_ofNat_Int,tload,aN,aP,List.getElem?_map]<;>exact rfl)|exact rfl)));(with_reducible apply TO.here))|((with_reducible apply TX.region);(focus (simp only[zl]<;>exact rfl));(focus rfl);(try dsimp only))|((with_reducible apply TX.cond_true);(focus rfl);(focus (first|rfl|(simp only[z1,zn];done))))|((with_reducible apply TX.cond_false);(focus rfl);(focus (first|rfl|(simp only[z1,zn];done))))|fail)
  obtain⟨v13,h1,hr⟩:=bs hr
  apply TO.cal (wn T) rfl Qk (iK h1) rfl rfl rfl
  repeat exact sd T
  refine wa_ T (g:=?_)
  rcases ifs hr with⟨h2,hr⟩|⟨h2,hr⟩
  ·have T:=an h2 T
   refine wa_ T (g:=?_)
   cases hr
   refine⟨.inr rfl,_,(ry T),?_⟩
   exact wk_ T [] rfl .nil
  ·have T:=an h2 T
   refine wa_ T (g:=?_)
   refine TX.unroll ?_
   repeat (first|(with_reducible first|refine mv ?_|refine m12 rfl ?_|refine TO.nil ?_)|((with_reducible first|apply TO.bin|apply TO.ia|apply TO.ld|apply TO.asg|apply TO.mv);(repeat (focus (show _=_;first|exact k1 rfl|exact k2 rfl|(simp only[zz,y45,e_c,e_i,Nat.reduceAdd,Nat.reduceMul,Nat.reduceLeDiff,Nat.reduceEqDiff,aB,z5,Int.reduceToNat,Int.reduceLE,Int.reduceLT,Int.cast_ofNat_Int,tload,aN,aP,List.getElem?_map,h2]<;>exact rfl)|exact rfl)));(with_reducible apply TO.here))|((with_reducible apply TX.region);(focus (simp only[zl]<;>exact rfl));(focus rfl);(try dsimp only))|((with_reducible apply TX.cond_true);(focus rfl);(focus (first|rfl|(simp only[z1,zn,h2];done))))|((with_reducible apply TX.cond_false);(focus rfl);(focus (first|rfl|(simp only[z1,zn,h2];done))))|fail)
   obtain⟨v14,h3,hr⟩:=bs hr
   apply TO.cal (wn T) rfl Rn (gP h3) rfl rfl rfl
   repeat exact sd T
   refine wa_ T (g:=?_)
   rcases ifs hr with⟨h4,hr⟩|⟨h4,hr⟩
   ·have T:=an h4 T
    refine wa_ T (g:=?_)
    cases hr
    refine⟨.inr rfl,_,(ry T),?_⟩
    exact wk_ T [] rfl .nil
   ·have T:=an h4 T
    refine wa_ T (g:=?_)
    refine TX.unroll ?_
    repeat (first|(with_reducible first|refine mv ?_|refine m12 rfl ?_|refine TO.nil ?_)|((with_reducible first|apply TO.bin|apply TO.ia|apply TO.ld|apply TO.asg|apply TO.mv);(repeat (focus (show _=_;first|exact k1 rfl|exact k2 rfl|(simp only[zz,y45,e_c,e_i,Nat.reduceAdd,Nat.reduceMul,Nat.reduceLeDiff,Nat.reduceEqDiff,aB,z5,Int.reduceToNat,Int.reduceLE,Int.reduceLT,Int.cast_ofNat_Int,tload,aN,aP,List.getElem?_map,h2,h4]<;>exact rfl)|exact rfl)));(with_reducible apply TO.here))|((with_reducible apply TX.region);(focus (simp only[zl]<;>exact rfl));(focus rfl);(try dsimp only))|((with_reducible apply TX.cond_true);(focus rfl);(focus (first|rfl|(simp only[z1,zn,h2,h4];done))))|((with_reducible apply TX.cond_false);(focus rfl);(focus (first|rfl|(simp only[z1,zn,h2,h4];done))))|fail)
    obtain⟨v15,h5,hr⟩:=bs hr
    apply TO.cal (wn T) rfl Pf (cV h5) rfl rfl rfl
    repeat exact sd T
    refine wa_ T (g:=?_)
    rcases ifs hr with⟨h6,hr⟩|⟨h6,hr⟩
    ·have T:=an h6 T
     refine wa_ T (g:=?_)
     cases hr
     refine⟨.inr rfl,_,(ry T),?_⟩
     exact wk_ T [] rfl .nil
    ·have T:=an h6 T
     refine wa_ T (g:=?_)
     refine TX.unroll ?_
     repeat (first|(with_reducible first|refine mv ?_|refine m12 rfl ?_|refine TO.nil ?_)|((with_reducible first|apply TO.bin|apply TO.ia|apply TO.ld|apply TO.asg|apply TO.mv);(repeat (focus (show _=_;first|exact k1 rfl|exact k2 rfl|(simp only[zz,y45,e_c,e_i,Nat.reduceAdd,Nat.reduceMul,Nat.reduceLeDiff,Nat.reduceEqDiff,aB,z5,Int.reduceToNat,Int.reduceLE,Int.reduceLT,Int.cast_ofNat_Int,tload,aN,aP,List.getElem?_map,h2,h4,h6]<;>exact rfl)|exact rfl)));(with_reducible apply TO.here))|((with_reducible apply TX.region);(focus (simp only[zl]<;>exact rfl));(focus rfl);(try dsimp only))|((with_reducible apply TX.cond_true);(focus rfl);(focus (first|rfl|(simp only[z1,zn,h2,h4,h6];done))))|((with_reducible apply TX.cond_false);(focus rfl);(focus (first|rfl|(simp only[z1,zn,h2,h4,h6];done))))|fail)
     obtain⟨v16,h7,hr⟩:=bs hr
     apply TO.cal (wn T) rfl aAm (kE h7) rfl rfl rfl
     repeat exact sd T
     refine wa_ T (g:=?_)
     rcases ifs hr with⟨h8,hr⟩|⟨h8,hr⟩
     ·have T:=an h8 T
      refine wa_ T (g:=?_)
      cases hr
      refine⟨.inr rfl,_,(ry T),?_⟩
      exact wk_ T [] rfl .nil
     ·have T:=an h8 T
      refine wa_ T (g:=?_)
      refine TX.unroll ?_
      repeat (first|(with_reducible first|refine mv ?_|refine m12 rfl ?_|refine TO.nil ?_)|((with_reducible first|apply TO.bin|apply TO.ia|apply TO.ld|apply TO.asg|apply TO.mv);(repeat (focus (show _=_;first|exact k1 rfl|exact k2 rfl|(simp only[zz,y45,e_c,e_i,Nat.reduceAdd,Nat.reduceMul,Nat.reduceLeDiff,Nat.reduceEqDiff,aB,z5,Int.reduceToNat,Int.reduceLE,Int.reduceLT,Int.cast_ofNat_Int,tload,aN,aP,List.getElem?_map,h2,h4,h6,h8]<;>exact rfl)|exact rfl)));(with_reducible apply TO.here))|((with_reducible apply TX.region);(focus (simp only[zl]<;>exact rfl));(focus rfl);(try dsimp only))|((with_reducible apply TX.cond_true);(focus rfl);(focus (first|rfl|(simp only[z1,zn,h2,h4,h6,h8];done))))|((with_reducible apply TX.cond_false);(focus rfl);(focus (first|rfl|(simp only[z1,zn,h2,h4,h6,h8];done))))|fail)
      obtain⟨v17,h9,hr⟩:=bs hr
      apply TO.cal (wn T) rfl aB0 (pQ h9) rfl rfl rfl
      repeat exact sd T
      refine wa_ T (g:=?_)
      rcases ifs hr with⟨h10,hr⟩|⟨h10,hr⟩
      ·have T:=an h10 T
       refine wa_ T (g:=?_)
       cases hr
       refine⟨.inr rfl,_,(ry T),?_⟩
       exact wk_ T [] rfl .nil
      ·have T:=an h10 T
       refine wa_ T (g:=?_)
       refine TX.unroll ?_
       refine wa_ T (g:=?_)
       cases hr
       refine⟨.inr rfl,_,(ry T),?_⟩
       exact wk_ T [] rfl .nil
 rfl
end Go.Rex
namespace Go.Rex
open Go.Proofs
open Go Go.Rex Go.RowKit
set_option maxRecDepth 100000
set_option maxHeartbeats 200000
def y46:=an @ag23 <| an @ag3 <| an @ag69 <| an @by3 <| an @cs23 <| an @cs3 <| an @cs69 <| an @ni23 <| an @ok23 <| an @ok69 <| an @so23 <| an @zc23 <| @zc3
theorem rB{v1:Int}{v2:(List Int)}{v3:Int}{v4:Int}{v5:(List Int)}(hr:fN v1 v2 v3 v4=some (v5)):Spec (lim Try.prog) 71 [.agg [.v (.int .i64 v1),.list 1 (v2.map e_i)],.v (.int .i64 v3),.v (.int .i64 v4)] ⟨[.lsl 0 0 v5.length],[.rows 1 (v5.map e_i)]⟩:=by
 unfold fN at hr
 have T:=an y46 <| @e_i.eq_1
 apply Spec.fnM Try.func71 rfl
 focus (simp[Try.f71]<;>exact rfl)
 focus
  refine wB T (g:=?_)
  obtain⟨⟨v6,v7,v8⟩,h1,hr⟩:=bs hr
  try dsimp only at hr
  apply TO.cal (wn T) rfl Xj (kP h1) rfl rfl rfl
  repeat exact sd T
  refine wa_ T (g:=?_)
  obtain⟨v15,h6,hr⟩:=bs hr
  refine TM.weak (s':=⟨.U::.U::.U::.U::.U::.fptr true [.v (.int .i64 v4)] 0::.U::.lptr 0 0 0::.U::.U::.U::.func 95 [] [.fptr true [.v (.int .i64 v6)] 0,.fptr true [.v (.int .i64 v7),.list 1 (v8.map e_i)] 0]::.U::.U::.U::.U::.U::.U::.U::.U::.U::.U::.U::[],[.var [.lsl 1 0 ([]:List Int).length],.rows 1 (([]:List Int).map e_i)]⟩) ?_ ?_
  ·exact wr [some 0,none] rfl (rv (.virt .nil) rfl)
  refine TM.range (it:=fun {X}=>aK v6 v7 v8) (enc:=fun a0=>[.v (.int .i64 a0)]) h6 (fun v9=>[.var [.lsl 1 0 v9.length],.rows 1 (v9.map e_i)]) (fun v12=>[.var [.lsl 1 0 v12.length],.rows 1 (v12.map e_i)]) (fun _=>.exit 0) rfl rfl Xw fX rfl rfl rfl (fun _=>rfl) (fun _=>.inr ⟨_,rfl⟩) ?_ ?_
  ·rintro v13 v9 r hr
   dsimp only[dQ] at hr
   show TX _ _ _ ⟨.U::.U::.U::.U::.U::.fptr true [.v (.int .i64 v4)] 0::.U::.lptr 0 0 0::.U::.U::.U::.func 95 [] [.fptr true [.v (.int .i64 v6)] 0,.fptr true [.v (.int .i64 v7),.list 1 (v8.map e_i)] 0]::.v (.int .i64 v13)::.U::.U::.U::.U::.U::.U::.U::.U::.U::.U::[],[.var [.lsl 1 0 v9.length],.rows 1 (v9.map e_i)]⟩ _
   refine wa_ T (g:=?_)
   refine⟨rfl,?_⟩
   repeat (first|(with_reducible first|refine mv ?_|refine m12 rfl ?_|refine TO.nil ?_)|((with_reducible first|apply TO.ld|apply TO.len|apply TO.bin);(repeat (focus (show _=_;first|exact k1 rfl|exact k2 rfl|(simp only[zz,y46,e_i,Nat.reduceAdd,Nat.reduceMul,Nat.reduceLeDiff,Nat.reduceEqDiff,tload,aN,aP,List.getElem?_map,tlen]<;>exact rfl)|exact rfl)));(with_reducible apply TO.here))|((with_reducible apply TX.region);(focus (simp only[zl]<;>exact rfl));(focus rfl);(try dsimp only))|((with_reducible apply TX.cond_true);(focus rfl);(focus (first|rfl|(simp only[z1,zn];done))))|((with_reducible apply TX.cond_false);(focus rfl);(focus (first|rfl|(simp only[z1,zn];done))))|((with_reducible apply TM.cond_true);(focus rfl);(focus (first|rfl|(simp only[z1,zn];done))))|((with_reducible apply TM.cond_false);(focus rfl);(focus (first|rfl|(simp only[z1,zn];done))))|fail)
   rcases ifs hr with⟨h4,hr⟩|⟨h4,hr⟩
   ·repeat (first|(with_reducible first|refine mv ?_|refine m12 rfl ?_)|((with_reducible apply TX.cond_true);(focus rfl);(focus (first|rfl|(simp only[z1,zn,h4];done))))|((with_reducible apply TX.cond_false);(focus rfl);(focus (first|rfl|(simp only[z1,zn,h4];done))))|((with_reducible apply TM.cond_true);(focus rfl);(focus (first|rfl|(simp only[z1,zn,h4];done))))|((with_reducible apply TM.cond_false);(focus rfl);(focus (first|rfl|(simp only[z1,zn,h4];done))))|fail)
    cases hr
    refine⟨rfl,?_⟩
    have T:=an h4 T
    exact wk_ T [some 0,some 1] rfl (rv (.rows .nil rfl rfl) rfl)
   ·repeat (first|(with_reducible first|refine mv ?_|refine m12 rfl ?_|refine TO.nil ?_)|((with_reducible first|apply TO.ld|apply TO.mv);(repeat (focus (show _=_;first|exact k1 rfl|exact k2 rfl|(simp only[zz,y46,e_i,Nat.reduceAdd,Nat.reduceMul,Nat.reduceLeDiff,Nat.reduceEqDiff,tload,aN,aP,List.getElem?_map,h4]<;>exact rfl)|exact rfl)));(with_reducible apply TO.here))|((with_reducible apply TX.region);(focus (simp only[zl]<;>exact rfl));(focus rfl);(try dsimp only))|((with_reducible apply TX.cond_true);(focus rfl);(focus (first|rfl|(simp only[z1,zn,h4];done))))|((with_reducible apply TX.cond_false);(focus rfl);(focus (first|rfl|(simp only[z1,zn,h4];done))))|((with_reducible apply TM.cond_true);(focus rfl);(focus (first|rfl|(simp only[z1,zn,h4];done))))|((with_reducible apply TM.cond_false);(focus rfl);(focus (first|rfl|(simp only[z1,zn,h4];done))))|fail)
    have T:=an h4 T
    apply TO.pop1 (wn T) (uP rfl rfl (by decide))
    repeat exact sd T
    refine wa_ T (g:=?_)
    apply TO.bm e_i ([(xH .and .i64 v13 1)]:List Int) (wn T) rfl (by simp only[zz,y46,e_i,Nat.reduceAdd,Nat.reduceMul,Nat.reduceLeDiff,Nat.reduceEqDiff,tslice,tparts,h4];exact rfl) rfl
    repeat exact sd T
    refine wa_ T (g:=?_)
    obtain⟨v14,h5,hr⟩:=bs hr
    apply TO.ap (f:=e_i) (xs:=v9) (ys:=([(xH .and .i64 v13 1)]:List Int)) (wn T) rfl rfl (by first|rfl|simp only[List.length_set]) rfl rfl so23 ni23 zc3 rfl (by rw[by3];exact h5) (fun _=>⟨rfl,rfl,rfl⟩)
    repeat exact sd T
    refine wa_ T (g:=?_)
    cases hr
    refine⟨rfl,?_⟩
    exact wk_ T [some 0,some 1] rfl (rv (.rows .nil rfl rfl) rfl)
  ·rcases v15 with v16|v17
   ·try dsimp only at hr
    try dsimp only
    refine wA T (g:=?_)
    cases hr
    refine⟨.inr rfl,_,(ry T),?_⟩
    exact wr [some 1] rfl (.rows .nil rfl rfl)
   ·try dsimp only at hr
    try dsimp only
    refine wA T (g:=?_)
    cases hr
    refine⟨.inr rfl,_,(ry T),?_⟩
    exact wr [some 1] rfl (.rows .nil rfl rfl)
 rfl
def y47:=an @ag3 <| an @ag69 <| an @cs3 <| an @cs69 <| an @ok3 <| an @ok69 <| an @so23 <| @bF
theorem kU{v1:Int}{v2:(List Int)}{v3:Int}{v4:(List Int)}(hr:cB v1 v2 v3=some (v4)):Spec (lim Try.prog) 44 [.agg [.v (.int .i64 v1),.list 1 (v2.map e_i)],.v (.int .i64 v3)] ⟨[.lsl 0 0 v4.length],[.rows 1 (v4.map e_i)]⟩:=by
 unfold cB at hr
 have T:=an y47 <| @e_i.eq_1
 apply Spec.fn Try.func44 rfl
 focus (simp[Try.f44]<;>exact rfl)
 focus
  refine wB T (g:=?_)
  obtain⟨v5,h1,hr⟩:=bs hr
  apply TD.cal (wn T) rfl vM (aL h1) rfl rfl rfl
  repeat exact sd T
  refine wa_ T (g:=?_)
  obtain⟨v6,h2,hr⟩:=bs hr
  apply TD.cal (wn T) rfl aBE (rB h2) rfl rfl rfl
  repeat exact sd T
  refine wc_ T (g:=?_)
  obtain⟨v12,h7,hr⟩:=bs hr
  refine TX.loopE (step:=dL v6) (x:=(v6,0)) h7 (fun (v7,v8)=>⟨.U::.U::.U::.U::.U::.lsl 0 0 v7.length::.U::.U::.U::.U::.U::.U::.U::.lsl 0 0 v7.length::.v (.int .i64 (v6.length:Int))::.v (.int .i64 v8)::.U::.U::.U::.U::.U::.U::.U::.U::.U::.U::.U::.U::[],[.rows 1 (v7.map e_i)]⟩) (fun v10=>(.exit 0,⟨.U::.U::.U::.U::.U::.lsl 0 0 v10.length::.U::.U::.U::.U::.U::.U::.U::.U::.U::.U::.U::.U::.U::.U::.U::.U::.U::.U::.U::.U::.U::.U::[],[.rows 1 (v10.map e_i)]⟩)) ?_ ?_ ?_ ?_
  ·rintro⟨v7,v8⟩ v0 hr
   dsimp only[dL] at hr
   try dsimp only
   refine wa_ T (g:=?_)
   rcases ifs hr with⟨h5,hr⟩|⟨h5,hr⟩
   ·have T:=an h5 T
    refine wa_ T (g:=?_)
    obtain⟨v11,h6,hr⟩:=bs hr
    have h6m:=dZ (f:=e_i) h6
    have h6l:=fQ h6
    try simp only[List.length_set] at h6l
    have h6a:=fS h6
    have T:=an h6m T
    have T:=an h6l T
    have T:=an h6a T
    refine wA T (g:=?_)
    apply TO.sr e_i v7 v11 (IntKind.i64.wrap (1-(IntKind.i64.wrap (2*v11)))) h6a (wn T) rfl rfl rfl rfl rfl ok3 (by rw[cs3];rfl) rfl rfl rfl rfl
    repeat exact sd T
    refine wa_ T (g:=?_)
    cases hr
    refine⟨rfl,?_⟩
    exact wk_ T [some 0] rfl (.rows .nil rfl rfl)
   ·have T:=an h5 T
    refine wa_ T (g:=?_)
    cases hr
    refine⟨rfl,?_⟩
    exact wk_ T [some 0] rfl (.rows .nil rfl rfl)
  ·intro e h;cases h
  ·try dsimp only
   refine wa_ T (g:=?_)
   cases hr
   refine⟨.inr rfl,_,(ry T),?_⟩
   exact wr [some 0] rfl (.rows .nil rfl rfl)
  ·try dsimp only
   exact wr [some 0] rfl (.rows .nil rfl rfl)
 rfl
end Go.Rex
