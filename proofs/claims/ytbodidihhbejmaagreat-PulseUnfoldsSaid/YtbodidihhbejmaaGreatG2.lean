/- Proofs that the program's functions do what these plain functions say. -/
import Derived.Test.YtbodidihhbejmaaGreatGB
import Derived.Test.YtbodidihhbejmaaGreatS
import Derived.Test.YtbodidihhbejmaaGreatG1
set_option linter.unusedSimpArgs false
set_option linter.unusedVariables false
set_option linter.defProp false
namespace Go.Rex
open Go.Proofs
open Go Go.Rex Go.RowKit
set_option maxRecDepth 100000
set_option maxHeartbeats 1000000
def y48:=an @ag84 <| an @cs84 <| an @ok84 <| an @so31 <| an @un44 <| an @un95 <| @bM
theorem tJ{v1:(List (Nat×Nat))}{v2:Int}(hr:eC v1=some (v2)):Spec (lim Tryz.prog) 13 [.list 1 (v1.map e_c)] ⟨[.v (.int .i64 v2)],[]⟩:=by
 unfold eC at hr
 have T:=an y48 <| @e_c.eq_1
 apply Spec.fn Tryz.func13 rfl
 focus (simp[Tryz.f13]<;>exact rfl)
 focus
  refine wc_ T (g:=?_)
  rcases ifs hr with⟨h1,hr⟩|⟨h1,hr⟩
  ·have T:=an h1 T
   refine wa_ T (g:=?_)
   cases hr
   refine⟨.inr rfl,_,(ry T),?_⟩
   exact wk_ T [] rfl .nil
  ·have T:=an h1 T
   refine wc_ T (g:=?_)
   rcases ifs hr with⟨h2,hr⟩|⟨h2,hr⟩
   ·have T:=an h2 T
    refine wa_ T (g:=?_)
    cases hr
    refine⟨.inr rfl,_,(ry T),?_⟩
    exact wk_ T [] rfl .nil
   ·have T:=an h2 T
    refine wa_ T (g:=?_)
    obtain⟨v17,h27,hr⟩:=bs hr
    refine TX.loopE (step:=eA v1) (x:=0) h27 (fun v3=>⟨.list 1 (v1.map e_c)::.Z::.Z::.v (.int .i64 v3)::.Z::.Z::.Z::.Z::.Z::.Z::.Z::.Z::.Z::.Z::.Z::.Z::.Z::.Z::.Z::.Z::.Z::.Z::.Z::.Z::.Z::.Z::.Z::.Z::.Z::.Z::.Z::.Z::.Z::.Z::.Z::.Z::.Z::.Z::.Z::.Z::.Z::.Z::.Z::.Z::.Z::.Z::.Z::.Z::.Z::.Z::.Z::.Z::[],[]⟩) (fun e=>match e with|(.inl v10)=>(.ret,⟨.Z::.Z::.v (.int .i64 v10)::.Z::.Z::.Z::.Z::.Z::.Z::.Z::.Z::.Z::.Z::.Z::.Z::.Z::.Z::.Z::.Z::.Z::.Z::.Z::.Z::.Z::.Z::.Z::.Z::.Z::.Z::.Z::.Z::.Z::.Z::.Z::.Z::.Z::.Z::.Z::.Z::.Z::.Z::.Z::.Z::.Z::.Z::.Z::.Z::.Z::.Z::.Z::.Z::.Z::[],[]⟩)|(.inr _)=>(.exit 0,⟨.Z::.Z::.Z::.Z::.Z::.Z::.Z::.Z::.Z::.Z::.Z::.Z::.Z::.Z::.Z::.Z::.Z::.Z::.Z::.Z::.Z::.Z::.Z::.Z::.Z::.Z::.Z::.Z::.Z::.Z::.Z::.Z::.Z::.Z::.Z::.Z::.Z::.Z::.Z::.Z::.Z::.Z::.Z::.Z::.Z::.Z::.Z::.Z::.Z::.Z::.Z::.Z::[],[]⟩)) ?_ ?_ ?_ ?_
    ·rintro v3 v0 hr
     dsimp only[eA] at hr
     try dsimp only
     refine wc_ T (g:=?_)
     rcases ifs hr with⟨h15,hr⟩|⟨h15,hr⟩
     ·have T:=an h15 T
      refine wa_ T (g:=?_)
      obtain⟨⟨v11,v12⟩,h16,hr⟩:=bs hr
      try dsimp only at hr
      have T:=an (gx e_c h16) T
      refine wA T (g:=?_)
      apply TD.pop1 (wn T) (oS rfl)
      repeat exact sd T
      refine wa_ T (g:=?_)
      obtain⟨v13,h17,hr⟩:=bs hr
      apply TD.pop1 (wn T) (mH un44 un95 rfl h17)
      repeat exact sd T
      refine wA T (g:=?_)
      apply TD.pop1 (wn T) (oX rfl)
      repeat exact sd T
      refine wa_ T (g:=?_)
      obtain⟨v14,h18,hr⟩:=bs hr
      apply TD.pop1 (wn T) (mH un44 un95 rfl h18)
      repeat exact sd T
      refine wa_ T (g:=?_)
      obtain⟨v15,h19,hr⟩:=bs hr
      apply TO.cal (wn T) rfl Pw (nY h19) rfl rfl rfl
      repeat exact sd T
      refine wa_ T (g:=?_)
      apply TO.pop1 (wn T) (dF rfl)
      repeat exact sd T
      refine wa_ T (g:=?_)
      rcases ifs hr with⟨h20,hr⟩|⟨h20,hr⟩
      ·have T:=an h20 T
       refine wa_ T (g:=?_)
       obtain⟨v16,h21,hr⟩:=bs hr
       apply TO.cal (wn T) rfl Pw (nY h21) rfl rfl rfl
       repeat exact sd T
       refine wa_ T (g:=?_)
       apply TO.pop1 (wn T) (dF rfl)
       repeat exact sd T
       refine wa_ T (g:=?_)
       rcases ifs hr with⟨h22,hr⟩|⟨h22,hr⟩
       ·have T:=an h22 T
        refine wa_ T (g:=?_)
        apply TO.pop1 (wn T) (fB rfl rfl (by decide))
        repeat exact sd T
        refine wa_ T (g:=?_)
        rcases ifs hr with⟨h23,hr⟩|⟨h23,hr⟩
        ·have T:=an h23 T
         refine wa_ T (g:=?_)
         cases hr
         refine⟨rfl,?_⟩
         exact wk_ T [] rfl .nil
        ·have T:=an h23 T
         refine wa_ T (g:=?_)
         apply TO.pop1 (wn T) (fB rfl rfl (by decide))
         repeat exact sd T
         refine wa_ T (g:=?_)
         rcases ifs hr with⟨h24,hr⟩|⟨h24,hr⟩
         ·have T:=an h24 T
          refine wa_ T (g:=?_)
          cases hr
          refine⟨rfl,?_⟩
          exact wk_ T [] rfl .nil
         ·have T:=an h24 T
          refine wa_ T (g:=?_)
          apply TO.pop1 (wn T) (fB rfl rfl (by decide))
          repeat exact sd T
          refine wa_ T (g:=?_)
          rcases ifs hr with⟨h25,hr⟩|⟨h25,hr⟩
          ·have T:=an h25 T
           refine wa_ T (g:=?_)
           cases hr
           refine⟨rfl,?_⟩
           exact wk_ T [] rfl .nil
          ·have T:=an h25 T
           refine wa_ T (g:=?_)
           apply TO.pop1 (wn T) (fB rfl rfl (by decide))
           repeat exact sd T
           refine wa_ T (g:=?_)
           rcases ifs hr with⟨h26,hr⟩|⟨h26,hr⟩
           ·have T:=an h26 T
            refine wa_ T (g:=?_)
            cases hr
            refine⟨rfl,?_⟩
            exact wk_ T [] rfl .nil
           ·have T:=an h26 T
            refine wa_ T (g:=?_)
            cases hr
            refine⟨rfl,?_⟩
            exact wk_ T [] rfl .nil
       ·have T:=an h22 T
        refine wa_ T (g:=?_)
        cases hr
        refine⟨rfl,?_⟩
        exact wk_ T [] rfl .nil
      ·have T:=an h20 T
       refine wa_ T (g:=?_)
       cases hr
       refine⟨rfl,?_⟩
       exact wk_ T [] rfl .nil
     ·have T:=an h15 T
      refine wa_ T (g:=?_)
      cases hr
      refine⟨rfl,?_⟩
      exact wk_ T [] rfl .nil
    ·intro e h;rcases e with _|e<;>cases h
    ·try dsimp only
     rcases v17 with v18|_
     ·try dsimp only at hr
      try dsimp only
      refine wa_ T (g:=?_)
      cases hr
      refine⟨.inr rfl,_,(ry T),?_⟩
      exact wk_ T [] rfl .nil
     ·try dsimp only at hr
      try dsimp only
      refine wa_ T (g:=?_)
      cases hr
      refine⟨.inr rfl,_,(ry T),?_⟩
      exact wk_ T [] rfl .nil
    ·try dsimp only
     exact wk_ T [] rfl .nil
 rfl
end Go.Rex
namespace Go.Rex
open Go.Proofs
open Go Go.Rex Go.RowKit
set_option maxRecDepth 100000
set_option maxHeartbeats 200000
theorem lD{v1:Int}{v2:Int}{v3:Int}{v4:Bool}(hr:eF v1 v2 v3=some (v4)):Spec (lim Tryz.prog) 19 [.v (.int .i64 v1),.v (.int .i64 v2),.v (.int .i64 v3)] ⟨[.v (.bool v4)],[]⟩:=by
 unfold eF at hr
 have T:=trivial
 apply Spec.fn Tryz.func19 rfl
 focus (simp[Tryz.f19]<;>exact rfl)
 focus
  refine wa_ T (g:=?_)
  rcases ifs hr with⟨h1,hr⟩|⟨h1,hr⟩
  ·have T:=an h1 T
   refine wa_ T (g:=?_)
   cases hr
   refine⟨.inr rfl,_,(ry T),?_⟩
   exact wk_ T [] rfl .nil
  ·have T:=an h1 T
   refine wa_ T (g:=?_)
   cases hr
   refine⟨.inr rfl,_,(ry T),?_⟩
   exact wk_ T [] rfl .nil
 rfl
end Go.Rex
namespace Go.Rex
open Go.Proofs
open Go Go.Rex Go.RowKit
set_option maxRecDepth 100000
set_option maxHeartbeats 1000000
def y49:=an @ag24 <| an @ag3 <| an @cs3 <| an @rE <| an @xE <| an @ok3 <| an @so24 <| @bM
theorem oM{v1:Int}{v2:(List Int)}{v3:Int}(hr:eU v1 v2=some (v3)):Spec (lim Tryz.prog) 54 [.agg [.v (.int .i64 v1),.list 1 (v2.map e_i)]] ⟨[.v (.int .i64 v3)],[]⟩:=by
 unfold eU at hr
 have T:=an y49 <| @e_i.eq_1
 apply Spec.fn Tryz.func54 rfl
 focus (simp[Tryz.f54]<;>exact rfl)
 focus
  refine wB T (g:=?_)
  obtain⟨v4,h1,hr⟩:=bs hr
  apply TO.cal (wn T) rfl Kl (lD h1) rfl rfl rfl
  repeat exact sd T
  refine wa_ T (g:=?_)
  apply TO.pop1 (wn T) (dF rfl)
  repeat exact sd T
  refine wa_ T (g:=?_)
  rcases ifs hr with⟨h2,hr⟩|⟨h2,hr⟩
  ·have T:=an h2 T
   refine wC T (g:=?_)
   rcases ifs hr with⟨h3,hr⟩|⟨h3,hr⟩
   ·have T:=an h3 T
    refine wa_ T (g:=?_)
    cases hr
    refine⟨.inr rfl,_,(ry T),?_⟩
    exact wk_ T [] rfl .nil
   ·have T:=an h3 T
    refine wa_ T (g:=?_)
    obtain⟨v13,h18,hr⟩:=bs hr
    refine TX.loopE (step:=cA v1 v2) (x:=0) h18 (fun v5=>⟨.Z::.fptr true [.v (.int .i64 v1),.list 1 (v2.map e_i)] 0::.Z::.v (.int .i64 v5)::.Z::.Z::.Z::.Z::.Z::.Z::.Z::.Z::.Z::.Z::.Z::.Z::.Z::.Z::.Z::.Z::.Z::.Z::.Z::.Z::.Z::.Z::.Z::.Z::.Z::.Z::.Z::.Z::.Z::.Z::.Z::.Z::.Z::.Z::.Z::.Z::.Z::.Z::.Z::.Z::.Z::.Z::.Z::.Z::.Z::.Z::.Z::.Z::.Z::.Z::.Z::[],[]⟩) (fun e=>match e with|(.inl v9)=>(.ret,⟨.Z::.Z::.v (.int .i64 v9)::.Z::.Z::.Z::.Z::.Z::.Z::.Z::.Z::.Z::.Z::.Z::.Z::.Z::.Z::.Z::.Z::.Z::.Z::.Z::.Z::.Z::.Z::.Z::.Z::.Z::.Z::.Z::.Z::.Z::.Z::.Z::.Z::.Z::.Z::.Z::.Z::.Z::.Z::.Z::.Z::.Z::.Z::.Z::.Z::.Z::.Z::.Z::.Z::.Z::.Z::.Z::.Z::[],[]⟩)|(.inr _)=>(.exit 0,⟨.Z::.fptr true [.v (.int .i64 v1),.list 1 (v2.map e_i)] 0::.Z::.Z::.Z::.Z::.Z::.Z::.Z::.Z::.Z::.Z::.Z::.Z::.Z::.Z::.Z::.Z::.Z::.Z::.Z::.Z::.Z::.Z::.Z::.Z::.Z::.Z::.Z::.Z::.Z::.Z::.Z::.Z::.Z::.Z::.Z::.Z::.Z::.Z::.Z::.Z::.Z::.Z::.Z::.Z::.Z::.Z::.Z::.Z::.Z::.Z::.Z::.Z::.Z::[],[]⟩)) ?_ ?_ ?_ ?_
    ·rintro v5 v0 hr
     dsimp only[cA] at hr
     try dsimp only
     refine wC T (g:=?_)
     rcases ifs hr with⟨h11,hr⟩|⟨h11,hr⟩
     ·have T:=an h11 T
      refine wA T (g:=?_)
      obtain⟨v10,h12,hr⟩:=bs hr
      have T:=an (gx e_i h12) T
      refine wA T (g:=?_)
      obtain⟨v11,h13,hr⟩:=bs hr
      apply TD.cal (wn T) rfl Kl (lD h13) rfl rfl rfl
      repeat exact sd T
      refine wa_ T (g:=?_)
      apply TD.pop1 (wn T) (dF rfl)
      repeat exact sd T
      refine wa_ T (g:=?_)
      rcases ifs hr with⟨h14,hr⟩|⟨h14,hr⟩
      ·have T:=an h14 T
       refine wa_ T (g:=?_)
       rcases ifs hr with⟨h15,hr⟩|⟨h15,hr⟩
       ·have T:=an h15 T
        refine wA T (g:=?_)
        obtain⟨v12,h16,hr⟩:=bs hr
        have T:=an (gx e_i h16) T
        refine wA T (g:=?_)
        rcases ifs hr with⟨h17,hr⟩|⟨h17,hr⟩
        ·have T:=an h17 T
         refine wa_ T (g:=?_)
         cases hr
         refine⟨rfl,?_⟩
         exact wk_ T [] rfl .nil
        ·have T:=an h17 T
         refine wa_ T (g:=?_)
         cases hr
         refine⟨rfl,?_⟩
         exact wk_ T [] rfl .nil
       ·have T:=an h15 T
        refine wa_ T (g:=?_)
        cases hr
        refine⟨rfl,?_⟩
        exact wk_ T [] rfl .nil
      ·have T:=an h14 T
       refine wa_ T (g:=?_)
       cases hr
       refine⟨rfl,?_⟩
       exact wk_ T [] rfl .nil
     ·have T:=an h11 T
      refine wa_ T (g:=?_)
      cases hr
      refine⟨rfl,?_⟩
      exact wk_ T [] rfl .nil
    ·intro e h;rcases e with _|e<;>cases h
    ·try dsimp only
     rcases v13 with v14|_
     ·try dsimp only at hr
      try dsimp only
      refine wa_ T (g:=?_)
      cases hr
      refine⟨.inr rfl,_,(ry T),?_⟩
      exact wk_ T [] rfl .nil
     ·try dsimp only at hr
      try dsimp only
      refine wC T (g:=?_)
      obtain⟨v15,h19,hr⟩:=bs hr
      have T:=an (gx e_i h19) T
      refine wA T (g:=?_)
      rcases ifs hr with⟨h20,hr⟩|⟨h20,hr⟩
      ·have T:=an h20 T
       refine wa_ T (g:=?_)
       cases hr
       refine⟨.inr rfl,_,(ry T),?_⟩
       exact wk_ T [] rfl .nil
      ·have T:=an h20 T
       refine wa_ T (g:=?_)
       cases hr
       refine⟨.inr rfl,_,(ry T),?_⟩
       exact wk_ T [] rfl .nil
    ·try dsimp only
     exact wk_ T [] rfl .nil
  ·have T:=an h2 T
   refine wa_ T (g:=?_)
   cases hr
   refine⟨.inr rfl,_,(ry T),?_⟩
   exact wk_ T [] rfl .nil
 rfl
end Go.Rex
namespace Go.Rex
open Go.Proofs
open Go Go.Rex Go.RowKit
set_option maxRecDepth 100000
set_option maxHeartbeats 200000
def y50:=an @ag3 <| an @rE <| an @bM <| @Rf
theorem jP{v1:Int}{v2:(List Int)}{v3:Int}(hr:gT v1 v2=some (v3)):Spec (lim Tryz.prog) 16 [.agg [.v (.int .i64 v1),.list 1 (v2.map e_i)]] ⟨[.v (.int .i64 v3)],[]⟩:=by
 unfold gT at hr
 have T:=an y50 <| @e_i.eq_1
 apply Spec.fn Tryz.func16 rfl
 focus (simp[Tryz.f16]<;>exact rfl)
 focus
  refine wb_ T (g:=?_)
  obtain⟨v7,h3,hr⟩:=bs hr
  refine TX.loopE (step:=iD v1) (x:=(1,0)) h3 (fun (v4,v5)=>⟨.Z::.fptr true [.v (.int .i64 v1),.list 1 (v2.map e_i)] 0::.Z::.v (.int .i64 v4)::.v (.int .i64 v5)::.Z::.Z::.Z::.Z::.Z::.Z::.Z::.Z::.Z::.Z::[],[]⟩) (fun v6=>(.exit 0,⟨.Z::.Z::.Z::.v (.int .i64 v6)::.Z::.Z::.Z::.Z::.Z::.Z::.Z::.Z::.Z::.Z::.Z::[],[]⟩)) ?_ ?_ ?_ ?_
  ·rintro⟨v4,v5⟩ v0 hr
   dsimp only[iD] at hr
   try dsimp only
   refine wA T (g:=?_)
   rcases ifs hr with⟨h2,hr⟩|⟨h2,hr⟩
   ·have T:=an h2 T
    refine wa_ T (g:=?_)
    cases hr
    refine⟨rfl,?_⟩
    exact wk_ T [] rfl .nil
   ·have T:=an h2 T
    refine wa_ T (g:=?_)
    cases hr
    refine⟨rfl,?_⟩
    exact wk_ T [] rfl .nil
  ·intro e h;cases h
  ·try dsimp only
   refine wa_ T (g:=?_)
   cases hr
   refine⟨.inr rfl,_,(ry T),?_⟩
   exact wr [] rfl .nil
  ·try dsimp only
   exact wr [] rfl .nil
 rfl
def y51:=an @ag26 <| an @cs26 <| @ok26
theorem sM{v1:Int}{v2:(List Int)}{v3:Int}{v4:Int}(hr:eD v1 v2 v3=some (v4)):Spec (lim Tryz.prog) 14 [.agg [.v (.int .i64 v1),.list 1 (v2.map e_i)],.v (.int .i64 v3)] ⟨[.v (.int .i64 v4)],[]⟩:=by
 unfold eD at hr
 have T:=an y51 <| @e_i.eq_1
 apply Spec.fn Tryz.func14 rfl
 focus (simp[Tryz.f14]<;>exact rfl)
 focus
  refine wB T (g:=?_)
  obtain⟨v5,h1,hr⟩:=bs hr
  apply TO.cal (wn T) rfl Vq (oM h1) rfl rfl rfl
  repeat exact sd T
  refine wa_ T (g:=?_)
  rcases ifs hr with⟨h2,hr⟩|⟨h2,hr⟩
  ·have T:=an h2 T
   refine wa_ T (g:=?_)
   cases hr
   refine⟨.inr rfl,_,(ry T),?_⟩
   exact wk_ T [] rfl .nil
  ·have T:=an h2 T
   refine wA T (g:=?_)
   obtain⟨v6,h3,hr⟩:=bs hr
   apply TO.cal (wn T) rfl Gh (jP h3) rfl rfl rfl
   repeat exact sd T
   refine wa_ T (g:=?_)
   obtain⟨v7,h4,hr⟩:=bs hr
   apply TO.cal (wn T) rfl Kl (lD h4) rfl rfl rfl
   repeat exact sd T
   refine wa_ T (g:=?_)
   apply TO.pop1 (wn T) (dF rfl)
   repeat exact sd T
   refine wa_ T (g:=?_)
   rcases ifs hr with⟨h5,hr⟩|⟨h5,hr⟩
   ·have T:=an h5 T
    refine wa_ T (g:=?_)
    cases hr
    refine⟨.inr rfl,_,(ry T),?_⟩
    exact wk_ T [] rfl .nil
   ·have T:=an h5 T
    refine wa_ T (g:=?_)
    cases hr
    refine⟨.inr rfl,_,(ry T),?_⟩
    exact wk_ T [] rfl .nil
 rfl
end Go.Rex
namespace Go.Rex
open Go.Proofs
open Go Go.Rex Go.RowKit
set_option maxRecDepth 100000
set_option maxHeartbeats 1000000
def y52:=an @ag24 <| an @ag3 <| an @by3 <| an @cs3 <| an @rE <| an @xE <| an @ni24 <| an @ok3 <| an @so24 <| an @zc3 <| @bM
theorem pX{v1:Int}{v2:(List Int)}{v3:Int}{v4:Int}{v5:(List Int)}(hr:kZ v1 v2 v3 v4=some (v5)):Spec (lim Tryz.prog) 92 [.agg [.v (.int .i64 v1),.list 1 (v2.map e_i)],.v (.int .i64 v3),.v (.int .i64 v4)] ⟨[.lsl 0 0 v5.length],[.rows 1 (v5.map e_i)]⟩:=by
 unfold kZ at hr
 have T:=an y52 <| @e_i.eq_1
 apply Spec.fn Tryz.func92 rfl
 focus (simp[Tryz.f92]<;>exact rfl)
 focus
  refine wb_ T (g:=?_)
  apply TX.vt (α:=Int) e_i 7 1 rfl
  repeat exact sd T
  with_reducible apply TX.here
  refine wa_ T (g:=?_)
  obtain⟨v30,h23,hr⟩:=bs hr
  refine TX.loopE (step:=iC v1 v2 v4) (x:=(v3,([]:List Int),0)) h23 (fun (v6,v7,v8)=>⟨.Z::.v (.int .i64 v6)::.v (.int .i64 v4)::.fptr true [.v (.int .i64 v1),.list 1 (v2.map e_i)] 0::.Z::.Z::.Z::.lsl 0 0 v7.length::.v (.int .i64 v8)::.Z::.Z::.Z::.Z::.Z::.Z::.Z::.Z::.Z::.Z::.Z::.Z::.Z::.Z::.Z::.Z::.Z::.Z::.Z::.Z::.Z::.Z::.Z::.Z::.Z::.Z::.Z::.Z::.Z::.Z::.Z::.Z::.Z::.Z::.Z::.Z::.Z::.Z::.Z::.Z::.Z::.Z::.Z::[],[.rows 1 (v7.map e_i)]⟩) (fun v19=>(.exit 0,⟨.Z::.Z::.Z::.Z::.Z::.Z::.Z::.lsl 0 0 v19.length::.Z::.Z::.Z::.Z::.Z::.Z::.Z::.Z::.Z::.Z::.Z::.Z::.Z::.Z::.Z::.Z::.Z::.Z::.Z::.Z::.Z::.Z::.Z::.Z::.Z::.Z::.Z::.Z::.Z::.Z::.Z::.Z::.Z::.Z::.Z::.Z::.Z::.Z::.Z::.Z::.Z::.Z::.Z::.Z::[],[.rows 1 (v19.map e_i)]⟩)) ?_ ?_ ?_ ?_
  ·rintro⟨v6,v7,v8⟩ v0 hr
   dsimp only[iC] at hr
   try dsimp only
   refine wa_ T (g:=?_)
   rcases ifs hr with⟨h12,hr⟩|⟨h12,hr⟩
   ·have T:=an h12 T
    refine wA T (g:=?_)
    rcases ifs hr with⟨h13,hr⟩|⟨h13,hr⟩
    ·have T:=an h13 T
     refine wa_ T (g:=?_)
     apply TO.bm e_i ([(v6.tmod 2)]:List Int) (wn T) rfl (by simp only[zz,y52,e_i,Nat.reduceAdd,Nat.reduceMul,Nat.reduceLeDiff,Nat.reduceEqDiff,tslice,tparts,h12,h13];exact rfl) rfl
     repeat exact sd T
     refine wa_ T (g:=?_)
     obtain⟨v20,h14,hr⟩:=bs hr
     apply TO.ap (f:=e_i) (xs:=v7) (ys:=([(v6.tmod 2)]:List Int)) (wn T) rfl rfl (by first|rfl|simp only[List.length_set]) rfl rfl so24 ni24 zc3 rfl (by rw[by3];exact h14) (fun _=>⟨rfl,rfl,rfl⟩)
     repeat exact sd T
     refine wa_ T (g:=?_)
     cases hr
     refine⟨rfl,?_⟩
     exact wk_ T [some 0] rfl (.rows .nil rfl rfl)
    ·have T:=an h13 T
     refine wa_ T (g:=?_)
     obtain⟨v28,h21,hr⟩:=bs hr
     refine TX.loopE (step:=iA v2 v7 v8) (x:=(0,0)) h21 (fun (v21,v22)=>⟨.Z::.v (.int .i64 v6)::.v (.int .i64 v4)::.fptr true [.v (.int .i64 v1),.list 1 (v2.map e_i)] 0::.Z::.Z::.Z::.lsl 0 0 v7.length::.v (.int .i64 v8)::.v (.int .i64 v21)::.v (.int .i64 v22)::.Z::.Z::.Z::.Z::.Z::.Z::.Z::.Z::.Z::.Z::.Z::.Z::.Z::.Z::.Z::.Z::.Z::.Z::.Z::.Z::.Z::.Z::.Z::.Z::.Z::.Z::.Z::.Z::.Z::.Z::.Z::.Z::.Z::.Z::.Z::.Z::.Z::.Z::.Z::.Z::.Z::[],[.rows 1 (v7.map e_i)]⟩) (fun v25=>(.exit 2,⟨.Z::.v (.int .i64 v6)::.v (.int .i64 v4)::.fptr true [.v (.int .i64 v1),.list 1 (v2.map e_i)] 0::.Z::.Z::.Z::.lsl 0 0 v7.length::.v (.int .i64 v8)::.v (.int .i64 v25)::.Z::.Z::.Z::.Z::.Z::.Z::.Z::.Z::.Z::.Z::.Z::.Z::.Z::.Z::.Z::.Z::.Z::.Z::.Z::.Z::.Z::.Z::.Z::.Z::.Z::.Z::.Z::.Z::.Z::.Z::.Z::.Z::.Z::.Z::.Z::.Z::.Z::.Z::.Z::.Z::.Z::.Z::[],[.rows 1 (v7.map e_i)]⟩)) ?_ ?_ ?_ ?_
     ·rintro⟨v21,v22⟩ v0 hr
      dsimp only[iA] at hr
      try dsimp only
      refine wC T (g:=?_)
      rcases ifs hr with⟨h18,hr⟩|⟨h18,hr⟩
      ·have T:=an h18 T
       refine wA T (g:=?_)
       obtain⟨v26,h19,hr⟩:=bs hr
       have T:=an (gx e_i h19) T
       refine wA T (g:=?_)
       obtain⟨v27,h20,hr⟩:=bs hr
       have T:=an (gx e_i h20) T
       refine wA T (g:=?_)
       cases hr
       refine⟨rfl,?_⟩
       exact wk_ T [some 0] rfl (.rows .nil rfl rfl)
      ·have T:=an h18 T
       refine wa_ T (g:=?_)
       cases hr
       refine⟨rfl,?_⟩
       exact wk_ T [some 0] rfl (.rows .nil rfl rfl)
     ·intro e h;cases h
     ·try dsimp only
      refine wa_ T (g:=?_)
      apply TO.bm e_i ([(v28.tmod 2)]:List Int) (wn T) rfl (by simp only[zz,y52,e_i,Nat.reduceAdd,Nat.reduceMul,Nat.reduceLeDiff,Nat.reduceEqDiff,tslice,tparts,h12,h13];exact rfl) rfl
      repeat exact sd T
      refine wa_ T (g:=?_)
      obtain⟨v29,h22,hr⟩:=bs hr
      apply TO.ap (f:=e_i) (xs:=v7) (ys:=([(v28.tmod 2)]:List Int)) (wn T) rfl rfl (by first|rfl|simp only[List.length_set]) rfl rfl so24 ni24 zc3 rfl (by rw[by3];exact h22) (fun _=>⟨rfl,rfl,rfl⟩)
      repeat exact sd T
      refine wa_ T (g:=?_)
      cases hr
      refine⟨rfl,?_⟩
      exact wk_ T [some 0] rfl (.rows .nil rfl rfl)
     ·try dsimp only
      exact wk_ T [some 0] rfl (.rows .nil rfl rfl)
   ·have T:=an h12 T
    refine wa_ T (g:=?_)
    cases hr
    refine⟨rfl,?_⟩
    exact wk_ T [some 0] rfl (.rows .nil rfl rfl)
  ·intro e h;cases h
  ·try dsimp only
   refine wa_ T (g:=?_)
   cases hr
   refine⟨.inr rfl,_,(ry T),?_⟩
   exact wr [some 0] rfl (.rows .nil rfl rfl)
  ·try dsimp only
   exact wr [some 0] rfl (.rows .nil rfl rfl)
 rfl
end Go.Rex
namespace Go.Rex
open Go.Proofs
open Go Go.Rex Go.RowKit
set_option maxRecDepth 100000
set_option maxHeartbeats 200000
def y53:=an @ag26 <| an @ag3 <| an @cs26 <| an @cs3 <| an @rE <| an @ok26 <| an @ok3 <| an @so24 <| @Rb
theorem pZ{v1:Int}{v2:(List Int)}{v3:Int}{v4:Int}(hr:lG v1 v2 v3=some (v4)):Spec (lim Tryz.prog) 95 [.agg [.v (.int .i64 v1),.list 1 (v2.map e_i)],.v (.int .i64 v3)] ⟨[.v (.int .i64 v4)],[]⟩:=by
 unfold lG at hr
 have T:=an y53 <| @e_i.eq_1
 apply Spec.fn Tryz.func95 rfl
 focus (simp[Tryz.f95]<;>exact rfl)
 focus
  refine wB T (g:=?_)
  obtain⟨v5,h1,hr⟩:=bs hr
  apply TO.cal (wn T) rfl Pf (pX h1) rfl rfl rfl
  repeat exact sd T
  refine wA T (g:=?_)
  obtain⟨v11,h6,hr⟩:=bs hr
  refine TX.loopE (step:=gZ v5) (x:=(0,v1)) h6 (fun (v6,v7)=>⟨.Z::.Z::.Z::.Z::.Z::.lsl 0 0 v5.length::.v (.int .i64 v6)::.v (.int .i64 v7)::.Z::.Z::.Z::.Z::.Z::.Z::.Z::.Z::.Z::.Z::.Z::.Z::.Z::.Z::.Z::.Z::.Z::.Z::.Z::.Z::[],[.rows 1 (v5.map e_i)]⟩) (fun v9=>(.exit 0,⟨.Z::.Z::.Z::.Z::.Z::.Z::.v (.int .i64 v9)::.Z::.Z::.Z::.Z::.Z::.Z::.Z::.Z::.Z::.Z::.Z::.Z::.Z::.Z::.Z::.Z::.Z::.Z::.Z::.Z::.Z::[],[]⟩)) ?_ ?_ ?_ ?_
  ·rintro⟨v6,v7⟩ v0 hr
   dsimp only[gZ] at hr
   try dsimp only
   refine wa_ T (g:=?_)
   rcases ifs hr with⟨h4,hr⟩|⟨h4,hr⟩
   ·have T:=an h4 T
    refine wa_ T (g:=?_)
    obtain⟨v10,h5,hr⟩:=bs hr
    have T:=an (gx e_i h5) T
    refine wA T (g:=?_)
    cases hr
    refine⟨rfl,?_⟩
    exact wk_ T [some 0] rfl (.rows .nil rfl rfl)
   ·have T:=an h4 T
    refine wa_ T (g:=?_)
    cases hr
    refine⟨rfl,?_⟩
    exact wk_ T [] rfl .nil
  ·intro e h;cases h
  ·try dsimp only
   refine wa_ T (g:=?_)
   cases hr
   refine⟨.inr rfl,_,(ry T),?_⟩
   exact wr [] rfl .nil
  ·try dsimp only
   exact wr [some 0] rfl (.rows .nil rfl rfl)
 rfl
def y54:=an @ag26 <| an @cs26 <| an @ok26 <| @nD
theorem vC{v1:Int}{v2:(List Int)}{v3:Int}{v4:Int}(hr:kM v1 v2 v3=some (v4)):Spec (lim Tryz.prog) 55 [.agg [.v (.int .i64 v1),.list 1 (v2.map e_i)],.v (.int .i64 v3)] ⟨[.v (.int .i64 v4)],[]⟩:=by
 unfold kM at hr
 have T:=an y54 <| @e_i.eq_1
 apply Spec.fn Tryz.func55 rfl
 focus (simp[Tryz.f55]<;>exact rfl)
 focus
  refine wB T (g:=?_)
  obtain⟨v5,h1,hr⟩:=bs hr
  apply TO.cal (wn T) rfl Pt (pZ h1) rfl rfl rfl
  repeat exact sd T
  refine wa_ T (g:=?_)
  obtain⟨v11,h6,hr⟩:=bs hr
  refine TX.loopE (step:=fM v1 v2 v3) (x:=(1,v5)) h6 (fun (v6,v7)=>⟨.Z::.v (.int .i64 v3)::.fptr true [.v (.int .i64 v1),.list 1 (v2.map e_i)] 0::.Z::.Z::.v (.int .i64 v6)::.v (.int .i64 v7)::.Z::.Z::.Z::.Z::.Z::.Z::.Z::.Z::.Z::.Z::.Z::.Z::[],[]⟩) (fun v9=>(.exit 0,⟨.Z::.Z::.Z::.Z::.Z::.v (.int .i64 v9)::.Z::.Z::.Z::.Z::.Z::.Z::.Z::.Z::.Z::.Z::.Z::.Z::.Z::[],[]⟩)) ?_ ?_ ?_ ?_
  ·rintro⟨v6,v7⟩ v0 hr
   dsimp only[fM] at hr
   try dsimp only
   refine wa_ T (g:=?_)
   rcases ifs hr with⟨h4,hr⟩|⟨h4,hr⟩
   ·have T:=an h4 T
    refine wA T (g:=?_)
    obtain⟨v10,h5,hr⟩:=bs hr
    apply TO.cal (wn T) rfl Pt (pZ h5) rfl rfl rfl
    repeat exact sd T
    refine wa_ T (g:=?_)
    cases hr
    refine⟨rfl,?_⟩
    exact wk_ T [] rfl .nil
   ·have T:=an h4 T
    refine wa_ T (g:=?_)
    cases hr
    refine⟨rfl,?_⟩
    exact wk_ T [] rfl .nil
  ·intro e h;cases h
  ·try dsimp only
   refine wa_ T (g:=?_)
   cases hr
   refine⟨.inr rfl,_,(ry T),?_⟩
   exact wr [] rfl .nil
  ·try dsimp only
   exact wr [] rfl .nil
 rfl
def y55:=an @ag26 <| an @cs26 <| @ok26
theorem rF{v1:Int}{v2:(List Int)}{v3:Bool}(hr:gX v1 v2=some (v3)):Spec (lim Tryz.prog) 15 [.agg [.v (.int .i64 v1),.list 1 (v2.map e_i)]] ⟨[.v (.bool v3)],[]⟩:=by
 unfold gX at hr
 have T:=an y55 <| @e_i.eq_1
 apply Spec.fn Tryz.func15 rfl
 focus (simp[Tryz.f15]<;>exact rfl)
 focus
  refine wB T (g:=?_)
  obtain⟨v4,h1,hr⟩:=bs hr
  apply TD.cal (wn T) rfl Wh (vC h1) rfl rfl rfl
  repeat exact sd T
  refine wA T (g:=?_)
  obtain⟨v5,h2,hr⟩:=bs hr
  apply TD.cal (wn T) rfl Gh (jP h2) rfl rfl rfl
  repeat exact sd T
  refine wa_ T (g:=?_)
  cases hr
  refine⟨.inr rfl,_,(ry T),?_⟩
  exact wr [] rfl .nil
 rfl
def y56:=an @ag84 <| an @ar88 <| an @by88 <| an @cs3 <| an @cs84 <| an @cs88 <| an @ni86 <| an @ok3 <| an @ok84 <| an @so31 <| an @so86 <| an @st88 <| an @un3 <| an @un44 <| an @zc88 <| @bM
theorem wJ{v1:(List (Nat×Nat))}{v2:(List (Int×Int))}(hr:dU v1=some (v2)):Spec (lim Tryz.prog) 45 [.list 1 (v1.map e_c)] ⟨[.lsl 0 0 v2.length],[.rows 2 (v2.map e_ii)]⟩:=by
 unfold dU at hr
 have T:=an y56 <| an @e_c.eq_1 <| @e_ii.eq_1
 apply Spec.fn Tryz.func45 rfl
 focus (simp[Tryz.f45]<;>exact rfl)
 focus
  refine wa_ T (g:=?_)
  apply TX.vt (α:=(Int×Int)) e_ii 3 2 rfl
  repeat exact sd T
  with_reducible apply TX.here
  refine wa_ T (g:=?_)
  obtain⟨v16,h11,hr⟩:=bs hr
  refine TX.loopE (step:=iP v1) (x:=(([]:List (Int×Int)),0)) h11 (fun (v3,v4)=>⟨.list 1 (v1.map e_c)::.Z::.Z::.lsl 0 0 v3.length::.v (.int .i64 v4)::.Z::.Z::.Z::.Z::.Z::.Z::.Z::.Z::.Z::.Z::.Z::.Z::.Z::.Z::.Z::.Z::.Z::.Z::.Z::.Z::.Z::.Z::.Z::[],[.rows 2 (v3.map e_ii)]⟩) (fun v10=>(.exit 0,⟨.Z::.Z::.Z::.lsl 0 0 v10.length::.Z::.Z::.Z::.Z::.Z::.Z::.Z::.Z::.Z::.Z::.Z::.Z::.Z::.Z::.Z::.Z::.Z::.Z::.Z::.Z::.Z::.Z::.Z::.Z::[],[.rows 2 (v10.map e_ii)]⟩)) ?_ ?_ ?_ ?_
  ·rintro⟨v3,v4⟩ v0 hr
   dsimp only[iP] at hr
   try dsimp only
   refine wc_ T (g:=?_)
   rcases ifs hr with⟨h6,hr⟩|⟨h6,hr⟩
   ·have T:=an h6 T
    refine wa_ T (g:=?_)
    obtain⟨⟨v11,v12⟩,h7,hr⟩:=bs hr
    try dsimp only at hr
    have h7m:=bK (f:=e_c) h7
    have h7l:=bZ h7
    try simp only[List.length_set] at h7l
    have h7a:=cB h7
    have T:=an h7m T
    have T:=an h7l T
    have T:=an h7a T
    refine wA T (g:=?_)
    apply TD.pop1 (wn T) (oS rfl)
    repeat exact sd T
    refine wa_ T (g:=?_)
    obtain⟨v13,h8,hr⟩:=bs hr
    apply TD.pop1 (wn T) (jF un44 un3 rfl h8)
    repeat exact sd T
    refine wA T (g:=?_)
    apply TD.pop1 (wn T) (oX rfl)
    repeat exact sd T
    refine wa_ T (g:=?_)
    obtain⟨v14,h9,hr⟩:=bs hr
    apply TD.pop1 (wn T) (jF un44 un3 rfl h9)
    repeat exact sd T
    refine wa_ T (g:=?_)
    apply TD.bm e_ii ([(v13,v14)]:List (Int×Int)) (wn T) rfl (by simp only[zz,y56,e_c,e_ii,Nat.reduceAdd,Nat.reduceMul,Nat.reduceLeDiff,Nat.reduceEqDiff,tslice,tparts,h6,h7m,h7l,h7a];exact rfl) rfl
    repeat exact sd T
    refine wa_ T (g:=?_)
    obtain⟨v15,h10,hr⟩:=bs hr
    apply TD.ap (f:=e_ii) (xs:=v3) (ys:=([(v13,v14)]:List (Int×Int))) (wn T) rfl rfl (by first|rfl|simp only[List.length_set]) rfl rfl so86 ni86 zc88 rfl (by rw[by88];exact h10) (fun _=>⟨rfl,rfl,rfl⟩) rfl
    repeat exact sd T
    refine wa_ T (g:=?_)
    cases hr
    refine⟨rfl,?_⟩
    exact wk_ T [some 0] rfl (.rows .nil rfl rfl)
   ·have T:=an h6 T
    refine wa_ T (g:=?_)
    cases hr
    refine⟨rfl,?_⟩
    exact wk_ T [some 0] rfl (.rows .nil rfl rfl)
  ·intro e h;cases h
  ·try dsimp only
   refine wa_ T (g:=?_)
   cases hr
   refine⟨.inr rfl,_,(ry T),?_⟩
   exact wr [some 0] rfl (.rows .nil rfl rfl)
  ·try dsimp only
   exact wr [some 0] rfl (.rows .nil rfl rfl)
 rfl
def y57:=an @ag3 <| an @ar88 <| an @by88 <| an @cs3 <| an @cs88 <| an @ok3 <| an @ok88 <| an @so86 <| an @so88 <| an @zc88 <| @bM
theorem uU{v1:(List (Int×Int))}{v2:Int}{v3:(List (Int×Int))}(hr:fV v1 v2=some (v3)):Spec (lim Tryz.prog) 46 [.list 2 (v1.map e_ii),.v (.int .i64 v2)] ⟨[.lsl 0 0 v3.length],[.rows 2 (v3.map e_ii)]⟩:=by
 unfold fV at hr
 have T:=an y57 <| @e_ii.eq_1
 apply Spec.fn Tryz.func46 rfl
 focus (simp[Tryz.f46]<;>exact rfl)
 focus
  refine wa_ T (g:=?_)
  obtain⟨v4,h1,hr⟩:=bs hr
  apply TO.mk e_ii h1 (wn T) rfl rfl so86 zc88 by88 rfl rfl rfl
  repeat exact sd T
  refine wa_ T (g:=?_)
  obtain⟨v20,h12,hr⟩:=bs hr
  refine TX.loopE (step:=eN v1 v2) (x:=(v4,0)) h12 (fun (v5,v6)=>⟨.list 2 (v1.map e_ii)::.v (.int .i64 v2)::.Z::.Z::.Z::.lsl 0 0 v5.length::.v (.int .i64 v6)::.Z::.Z::.Z::.Z::.Z::.Z::.Z::.Z::.Z::.Z::.Z::.Z::.Z::.Z::.Z::.Z::.Z::.Z::.Z::.Z::.Z::.Z::.Z::.Z::.Z::.Z::.Z::.Z::.Z::.Z::.Z::.Z::.Z::.Z::.Z::.Z::.Z::.Z::.Z::.Z::.Z::.Z::.Z::.Z::.Z::.Z::.Z::[],[.rows 2 (v5.map e_ii)]⟩) (fun v13=>(.exit 0,⟨.Z::.Z::.Z::.Z::.Z::.lsl 0 0 v13.length::.Z::.Z::.Z::.Z::.Z::.Z::.Z::.Z::.Z::.Z::.Z::.Z::.Z::.Z::.Z::.Z::.Z::.Z::.Z::.Z::.Z::.Z::.Z::.Z::.Z::.Z::.Z::.Z::.Z::.Z::.Z::.Z::.Z::.Z::.Z::.Z::.Z::.Z::.Z::.Z::.Z::.Z::.Z::.Z::.Z::.Z::.Z::.Z::[],[.rows 2 (v13.map e_ii)]⟩)) ?_ ?_ ?_ ?_
  ·rintro⟨v5,v6⟩ v0 hr
   dsimp only[eN] at hr
   try dsimp only
   refine wc_ T (g:=?_)
   rcases ifs hr with⟨h7,hr⟩|⟨h7,hr⟩
   ·have T:=an h7 T
    refine wa_ T (g:=?_)
    by_cases h8:v2=0
    ·rw[if_pos h8] at hr
     cases hr
    ·rw[if_neg h8] at hr
     have T:=an h8 T
     refine wa_ T (g:=?_)
     obtain⟨⟨v14,v15⟩,h9,hr⟩:=bs hr
     try dsimp only at hr
     have h9m:=bK (f:=e_ii) h9
     have h9l:=bZ h9
     try simp only[List.length_set] at h9l
     have h9a:=cB h9
     repeat (first|(with_reducible first|refine mv ?_|refine m12 rfl ?_|refine TD.nil ?_)|((with_reducible first|apply TD.ia|apply TD.ia|apply TD.ld|apply TD.mv);(repeat (focus (show _=_;first|exact k1 rfl|exact k2 rfl|(simp only[zz,y57,e_ii,Nat.reduceAdd,Nat.reduceMul,Nat.reduceLeDiff,Nat.reduceEqDiff,aA,Nat.zero_add,z5,Int.reduceToNat,Int.reduceLE,Int.reduceLT,Int.cast_ofNat_Int,tload,aV,aU,List.getElem?_map,h7,h8,h9m,h9l,h9a]<;>exact rfl)|exact rfl)));(with_reducible refine TD.here ?_))|((with_reducible apply TX.drawn);(focus decide +kernel);(focus (simp only[zl]<;>exact rfl));(focus exact rfl);(try dsimp only))|fail)
     obtain⟨⟨v16,v17⟩,h10,hr⟩:=bs hr
     try dsimp only at hr
     have h10m:=bK (f:=e_ii) h10
     have h10l:=bZ h10
     try simp only[List.length_set] at h10l
     have h10a:=cB h10
     repeat (first|(with_reducible first|refine mv ?_|refine m12 rfl ?_|refine TD.nil ?_)|((with_reducible first|apply TD.ia|apply TD.ia|apply TD.ld|apply TD.bin);(repeat (focus (show _=_;first|exact k1 rfl|exact k2 rfl|(simp only[zz,y57,e_ii,Nat.reduceAdd,Nat.reduceMul,Nat.reduceLeDiff,Nat.reduceEqDiff,aA,Nat.zero_add,z5,Int.reduceToNat,Int.reduceLE,Int.reduceLT,Int.cast_ofNat_Int,tload,aV,aU,List.getElem?_map,h7,h8,h9m,h9l,h9a,h10m,h10l,h10a]<;>exact rfl)|exact rfl)));(with_reducible refine TD.here ?_))|((with_reducible apply TX.drawn);(focus decide +kernel);(focus (simp only[zl]<;>exact rfl));(focus exact rfl);(try dsimp only))|fail)
     have T:=an h9m T
     have T:=an h9l T
     have T:=an h9a T
     have T:=an h10m T
     have T:=an h10l T
     have T:=an h10a T
     apply TD.sr e_ii v5 (v14,v15) ((IntKind.i64.wrap (v14+v16)),v15) h9a (wn T) rfl rfl rfl rfl rfl ok3 (by rw[cs3];rfl) rfl rfl rfl rfl rfl
     repeat exact sd T
     refine wa_ T (g:=?_)
     obtain⟨⟨v18,v19⟩,h11,hr⟩:=bs hr
     try dsimp only at hr
     have h11m:=bK (f:=e_ii) h11
     have h11l:=bZ h11
     try simp only[List.length_set] at h11l
     have h11a:=cB h11
     repeat (first|(with_reducible first|refine mv ?_|refine m12 rfl ?_|refine TD.nil ?_)|((with_reducible first|apply TD.ia|apply TD.ia|apply TD.ld|apply TD.mv|apply TD.bin);(repeat (focus (show _=_;first|exact k1 rfl|exact k2 rfl|(simp only[zz,y57,e_ii,Nat.reduceAdd,Nat.reduceMul,Nat.reduceLeDiff,Nat.reduceEqDiff,aA,Nat.zero_add,z5,Int.reduceToNat,Int.reduceLE,Int.reduceLT,Int.cast_ofNat_Int,tload,aV,aU,List.getElem?_map,h7,h8,h9m,h9l,h9a,h10m,h10l,h10a,h11m,h11l,h11a]<;>exact rfl)|exact rfl)));(with_reducible refine TD.here ?_))|((with_reducible apply TX.drawn);(focus decide +kernel);(focus (simp only[zl]<;>exact rfl));(focus exact rfl);(try dsimp only))|fail)
     have T:=an h11m T
     have T:=an h11l T
     have T:=an h11a T
     apply TD.sr e_ii (v5.set ((v6.tmod v2)).toNat ((IntKind.i64.wrap (v14+v16)),v15)) (v18,v19) (v18,(IntKind.i64.wrap (v19+v17))) h11a (wn T) rfl rfl rfl rfl rfl ok3 (by rw[cs3];rfl) rfl rfl rfl rfl rfl
     repeat exact sd T
     refine wa_ T (g:=?_)
     cases hr
     refine⟨rfl,?_⟩
     exact wk_ T [some 0] rfl (.rows .nil rfl rfl)
   ·have T:=an h7 T
    refine wa_ T (g:=?_)
    cases hr
    refine⟨rfl,?_⟩
    exact wk_ T [some 0] rfl (.rows .nil rfl rfl)
  ·intro e h;cases h
  ·try dsimp only
   refine wa_ T (g:=?_)
   cases hr
   refine⟨.inr rfl,_,(ry T),?_⟩
   exact wr [some 0] rfl (.rows .nil rfl rfl)
  ·try dsimp only
   exact wr [some 0] rfl (.rows .nil rfl rfl)
 rfl
def y58:=an @ag26 <| an @ag3 <| an @cs26 <| an @cs3 <| an @ok26 <| an @ok3 <| an @so24 <| @bM
theorem wM{v1:Int}{v2:(List Int)}{v3:Int}{v4:(List Int)}(hr:iX v1 v2 v3=some (v4)):Spec (lim Tryz.prog) 48 [.agg [.v (.int .i64 v1),.list 1 (v2.map e_i)],.v (.int .i64 v3)] ⟨[.lsl 0 0 v4.length],[.rows 1 (v4.map e_i)]⟩:=by
 unfold iX at hr
 have T:=an y58 <| @e_i.eq_1
 apply Spec.fn Tryz.func48 rfl
 focus (simp[Tryz.f48]<;>exact rfl)
 focus
  refine wB T (g:=?_)
  obtain⟨v5,h1,hr⟩:=bs hr
  apply TD.cal (wn T) rfl Gh (jP h1) rfl rfl rfl
  repeat exact sd T
  refine wa_ T (g:=?_)
  obtain⟨v6,h2,hr⟩:=bs hr
  apply TD.cal (wn T) rfl Pf (pX h2) rfl rfl rfl
  repeat exact sd T
  refine wa_ T (g:=?_)
  obtain⟨v12,h7,hr⟩:=bs hr
  refine TX.loopE (step:=iQ) (x:=(v6,0)) h7 (fun (v7,v8)=>⟨.Z::.Z::.Z::.Z::.Z::.lsl 0 0 v7.length::.v (.int .i64 v8)::.Z::.Z::.Z::.Z::.Z::.Z::.Z::.Z::.Z::.Z::.Z::.Z::.Z::.Z::.Z::.Z::.Z::.Z::.Z::.Z::.Z::[],[.rows 1 (v7.map e_i)]⟩) (fun v10=>(.exit 0,⟨.Z::.Z::.Z::.Z::.Z::.lsl 0 0 v10.length::.Z::.Z::.Z::.Z::.Z::.Z::.Z::.Z::.Z::.Z::.Z::.Z::.Z::.Z::.Z::.Z::.Z::.Z::.Z::.Z::.Z::.Z::[],[.rows 1 (v10.map e_i)]⟩)) ?_ ?_ ?_ ?_
  ·rintro⟨v7,v8⟩ v0 hr
   dsimp only[iQ] at hr
   try dsimp only
   refine wc_ T (g:=?_)
   rcases ifs hr with⟨h5,hr⟩|⟨h5,hr⟩
   ·have T:=an h5 T
    refine wa_ T (g:=?_)
    obtain⟨v11,h6,hr⟩:=bs hr
    have h6m:=bK (f:=e_i) h6
    have h6l:=bZ h6
    try simp only[List.length_set] at h6l
    have h6a:=cB h6
    have T:=an h6m T
    have T:=an h6l T
    have T:=an h6a T
    refine wA T (g:=?_)
    apply TO.sr e_i v7 v11 (IntKind.i64.wrap (1-(IntKind.i64.wrap (2*v11)))) h6a (wn T) rfl rfl rfl rfl rfl ok3 (by rw[cs3];rfl) rfl rfl rfl rfl
    repeat exact sd T
    refine wa_ T (g:=?_)
    cases hr
    refine⟨rfl,?_⟩
    exact wk_ T [some 0] rfl (.rows .nil rfl rfl)
   ·have T:=an h5 T
    refine wa_ T (g:=?_)
    cases hr
    refine⟨rfl,?_⟩
    exact wk_ T [some 0] rfl (.rows .nil rfl rfl)
  ·intro e h;cases h
  ·try dsimp only
   refine wa_ T (g:=?_)
   cases hr
   refine⟨.inr rfl,_,(ry T),?_⟩
   exact wr [some 0] rfl (.rows .nil rfl rfl)
  ·try dsimp only
   exact wr [some 0] rfl (.rows .nil rfl rfl)
 rfl
theorem iB{v1:Int}{v2:Int}{v3:Int}(hr:gF v1 v2=some (v3)):Spec (lim Tryz.prog) 49 [.v (.int .i64 v1),.v (.int .i64 v2)] ⟨[.v (.int .i64 v3)],[]⟩:=by
 unfold gF at hr
 have T:=trivial
 apply Spec.fn Tryz.func49 rfl
 focus (simp[Tryz.f49]<;>exact rfl)
 focus
  refine wa_ T (g:=?_)
  by_cases h1:v2=0
  ·rw[if_pos h1] at hr
   cases hr
  ·rw[if_neg h1] at hr
   have T:=an h1 T
   refine wa_ T (g:=?_)
   rcases ifs hr with⟨h2,hr⟩|⟨h2,hr⟩
   ·have T:=an h2 T
    refine wa_ T (g:=?_)
    cases hr
    refine⟨.inr rfl,_,(ry T),?_⟩
    exact wk_ T [] rfl .nil
   ·have T:=an h2 T
    refine wa_ T (g:=?_)
    cases hr
    refine⟨.inr rfl,_,(ry T),?_⟩
    exact wk_ T [] rfl .nil
 rfl
end Go.Rex
namespace Go.Rex
open Go.Proofs
open Go Go.Rex Go.RowKit
set_option maxRecDepth 100000
set_option maxHeartbeats 1000000
def y59:=an @ag3 <| an @ar88 <| an @by88 <| an @cs3 <| an @cs88 <| an @ok3 <| an @ok88 <| an @so24 <| an @so86 <| an @so88 <| an @zc88 <| an @bM <| @Rm
theorem vQ{v1:(List (Int×Int))}{v2:(List Int)}{v3:Bool}{v4:(List (Int×Int))}(hr:gM v1 v2 v3=some (v4)):Spec (lim Tryz.prog) 47 [.list 2 (v1.map e_ii),.list 1 (v2.map e_i),.v (.bool v3)] ⟨[.lsl 0 0 v4.length],[.rows 2 (v4.map e_ii)]⟩:=by
 unfold gM at hr
 have T:=an y59 <| an @e_i.eq_1 <| @e_ii.eq_1
 apply Spec.fn Tryz.func47 rfl
 focus (simp[Tryz.f47]<;>exact rfl)
 focus
  refine wc_ T (g:=?_)
  obtain⟨v5,h1,hr⟩:=bs hr
  apply TO.mk e_ii h1 (wn T) rfl rfl so86 zc88 by88 rfl rfl rfl
  repeat exact sd T
  refine wa_ T (g:=?_)
  obtain⟨v97,h70,hr⟩:=bs hr
  refine TX.loopE (step:=fN v1 v2 v3) (x:=(v5,0)) h70 (fun (v6,v7)=>⟨.list 2 (v1.map e_ii)::.list 1 (v2.map e_i)::.v (.bool v3)::.Z::.Z::.Z::.Z::.v (.int .i64 (v2.length:Int))::.lsl 0 0 v6.length::.v (.int .i64 v7)::.Z::.Z::.Z::.Z::.Z::.Z::.Z::.Z::.Z::.Z::.Z::.Z::.Z::.Z::.Z::.Z::.Z::.Z::.Z::.Z::.Z::.Z::.Z::.Z::.Z::.Z::.Z::.Z::.Z::.Z::.Z::.Z::.Z::.Z::.Z::.Z::.Z::.Z::.Z::.Z::.Z::.Z::.Z::.Z::.Z::.Z::.Z::.Z::.Z::.Z::.Z::.Z::.Z::.Z::.Z::.Z::.Z::.Z::.Z::.Z::.Z::.Z::.Z::.Z::.Z::.Z::.Z::.Z::.Z::.Z::.Z::[],[.rows 2 (v6.map e_ii)]⟩) (fun v52=>(.exit 0,⟨.Z::.Z::.Z::.Z::.Z::.Z::.Z::.Z::.lsl 0 0 v52.length::.Z::.Z::.Z::.Z::.Z::.Z::.Z::.Z::.Z::.Z::.Z::.Z::.Z::.Z::.Z::.Z::.Z::.Z::.Z::.Z::.Z::.Z::.Z::.Z::.Z::.Z::.Z::.Z::.Z::.Z::.Z::.Z::.Z::.Z::.Z::.Z::.Z::.Z::.Z::.Z::.Z::.Z::.Z::.Z::.Z::.Z::.Z::.Z::.Z::.Z::.Z::.Z::.Z::.Z::.Z::.Z::.Z::.Z::.Z::.Z::.Z::.Z::.Z::.Z::.Z::.Z::.Z::.Z::.Z::.Z::.Z::.Z::[],[.rows 2 (v52.map e_ii)]⟩)) ?_ ?_ ?_ ?_
  ·rintro⟨v6,v7⟩ v0 hr
   dsimp only[fN] at hr
   try dsimp only
   refine wa_ T (g:=?_)
   rcases ifs hr with⟨h36,hr⟩|⟨h36,hr⟩
   ·have T:=an h36 T
    refine wa_ T (g:=?_)
    obtain⟨v96,h69,hr⟩:=bs hr
    refine TX.loopE (step:=dT v1 v2 v3 v7) (x:=(v6,0)) h69 (fun (v53,v54)=>⟨.list 2 (v1.map e_ii)::.list 1 (v2.map e_i)::.v (.bool v3)::.Z::.Z::.Z::.Z::.v (.int .i64 (v2.length:Int))::.lsl 0 0 v53.length::.v (.int .i64 v7)::.v (.int .i64 v54)::.Z::.Z::.Z::.Z::.Z::.Z::.Z::.Z::.Z::.Z::.Z::.Z::.Z::.Z::.Z::.Z::.Z::.Z::.Z::.Z::.Z::.Z::.Z::.Z::.Z::.Z::.Z::.Z::.Z::.Z::.Z::.Z::.Z::.Z::.Z::.Z::.Z::.Z::.Z::.Z::.Z::.Z::.Z::.Z::.Z::.Z::.Z::.Z::.Z::.Z::.Z::.Z::.Z::.Z::.Z::.Z::.Z::.Z::.Z::.Z::.Z::.Z::.Z::.Z::.Z::.Z::.Z::.Z::.Z::.Z::[],[.rows 2 (v53.map e_ii)]⟩) (fun v75=>(.exit 2,⟨.list 2 (v1.map e_ii)::.list 1 (v2.map e_i)::.v (.bool v3)::.Z::.Z::.Z::.Z::.v (.int .i64 (v2.length:Int))::.lsl 0 0 v75.length::.v (.int .i64 v7)::.Z::.Z::.Z::.Z::.Z::.Z::.Z::.Z::.Z::.Z::.Z::.Z::.Z::.Z::.Z::.Z::.Z::.Z::.Z::.Z::.Z::.Z::.Z::.Z::.Z::.Z::.Z::.Z::.Z::.Z::.Z::.Z::.Z::.Z::.Z::.Z::.Z::.Z::.Z::.Z::.Z::.Z::.Z::.Z::.Z::.Z::.Z::.Z::.Z::.Z::.Z::.Z::.Z::.Z::.Z::.Z::.Z::.Z::.Z::.Z::.Z::.Z::.Z::.Z::.Z::.Z::.Z::.Z::.Z::.Z::.Z::[],[.rows 2 (v75.map e_ii)]⟩)) ?_ ?_ ?_ ?_
    ·rintro⟨v53,v54⟩ v0 hr
     dsimp only[dT] at hr
     try dsimp only
     refine wa_ T (g:=?_)
     rcases ifs hr with⟨h53,hr⟩|⟨h53,hr⟩
     ·have T:=an h53 T
      refine wa_ T (g:=?_)
      rcases ifs hr with⟨h54,hr⟩|⟨h54,hr⟩
      ·have T:=an h54 T
       refine wa_ T (g:=?_)
       obtain⟨⟨v76,v77⟩,h55,hr⟩:=bs hr
       try dsimp only at hr
       have h55m:=bK (f:=e_ii) h55
       have h55l:=bZ h55
       try simp only[List.length_set] at h55l
       have h55a:=cB h55
       repeat (first|(with_reducible first|refine mv ?_|refine m12 rfl ?_|refine TD.nil ?_)|((with_reducible first|apply TD.ia|apply TD.ia|apply TD.ld|apply TD.mv);(repeat (focus (show _=_;first|exact k1 rfl|exact k2 rfl|(simp only[zz,y59,e_i,e_ii,Nat.reduceAdd,Nat.reduceMul,Nat.reduceLeDiff,Nat.reduceEqDiff,aA,Nat.zero_add,z5,Int.reduceToNat,Int.reduceLE,Int.reduceLT,Int.cast_ofNat_Int,tload,aV,aU,List.getElem?_map,h36,h53,h54,h55m,h55l,h55a]<;>exact rfl)|exact rfl)));(with_reducible refine TD.here ?_))|((with_reducible apply TX.drawn);(focus decide +kernel);(focus (simp only[zl]<;>exact rfl));(focus exact rfl);(try dsimp only))|fail)
       obtain⟨⟨v78,v79⟩,h56,hr⟩:=bs hr
       try dsimp only at hr
       have h56m:=bK (f:=e_ii) h56
       have h56l:=bZ h56
       try simp only[List.length_set] at h56l
       have h56a:=cB h56
       repeat (first|(with_reducible first|refine mv ?_|refine m12 rfl ?_|refine TD.nil ?_)|((with_reducible first|apply TD.ia|apply TD.ia|apply TD.ld|apply TD.mv|apply TD.bin);(repeat (focus (show _=_;first|exact k1 rfl|exact k2 rfl|(simp only[zz,y59,e_i,e_ii,Nat.reduceAdd,Nat.reduceMul,Nat.reduceLeDiff,Nat.reduceEqDiff,aA,Nat.zero_add,z5,Int.reduceToNat,Int.reduceLE,Int.reduceLT,Int.cast_ofNat_Int,tload,aV,aU,List.getElem?_map,h36,h53,h54,h55m,h55l,h55a,h56m,h56l,h56a]<;>exact rfl)|exact rfl)));(with_reducible refine TD.here ?_))|((with_reducible apply TX.drawn);(focus decide +kernel);(focus (simp only[zl]<;>exact rfl));(focus exact rfl);(try dsimp only))|fail)
       obtain⟨v80,h57,hr⟩:=bs hr
       have T:=an h55m T
       have T:=an h55l T
       have T:=an h55a T
       have T:=an h56m T
       have T:=an h56l T
       have T:=an h56a T
       apply TD.cal (wn T) rfl vV (iB h57) rfl rfl rfl
       repeat exact sd T
       refine wa_ T (g:=?_)
       obtain⟨v81,h58,hr⟩:=bs hr
       have h58m:=bK (f:=e_i) h58
       have h58l:=bZ h58
       try simp only[List.length_set] at h58l
       have h58a:=cB h58
       repeat (first|(with_reducible first|refine mv ?_|refine m12 rfl ?_|refine TD.nil ?_)|((with_reducible first|apply TD.ia|apply TD.ld|apply TD.bin|apply TD.ia);(repeat (focus (show _=_;first|exact k1 rfl|exact k2 rfl|(simp only[zz,y59,e_i,e_ii,Nat.reduceAdd,Nat.reduceMul,Nat.reduceLeDiff,Nat.reduceEqDiff,aA,Nat.zero_add,tload,aV,aU,List.getElem?_map,z5,Int.reduceToNat,Int.reduceLE,Int.reduceLT,Int.cast_ofNat_Int,h36,h53,h54,h55m,h55l,h55a,h56m,h56l,h56a,h58m,h58l,h58a]<;>exact rfl)|exact rfl)));(with_reducible refine TD.here ?_))|((with_reducible apply TX.drawn);(focus decide +kernel);(focus (simp only[zl]<;>exact rfl));(focus exact rfl);(try dsimp only))|fail)
       have T:=an h58m T
       have T:=an h58l T
       have T:=an h58a T
       apply TD.sr e_ii v53 (v76,v77) ((IntKind.i64.wrap (v76+(IntKind.i64.wrap (v78*v81)))),v77) h55a (wn T) rfl rfl rfl rfl rfl ok3 (by rw[cs3];rfl) rfl rfl rfl rfl rfl
       repeat exact sd T
       refine wa_ T (g:=?_)
       obtain⟨⟨v82,v83⟩,h59,hr⟩:=bs hr
       try dsimp only at hr
       have h59m:=bK (f:=e_ii) h59
       have h59l:=bZ h59
       try simp only[List.length_set] at h59l
       have h59a:=cB h59
       repeat (first|(with_reducible first|refine mv ?_|refine m12 rfl ?_|refine TD.nil ?_)|((with_reducible first|apply TD.ia|apply TD.ia|apply TD.ld|apply TD.mv|apply TD.bin);(repeat (focus (show _=_;first|exact k1 rfl|exact k2 rfl|(simp only[zz,y59,e_i,e_ii,Nat.reduceAdd,Nat.reduceMul,Nat.reduceLeDiff,Nat.reduceEqDiff,aA,Nat.zero_add,z5,Int.reduceToNat,Int.reduceLE,Int.reduceLT,Int.cast_ofNat_Int,tload,aV,aU,List.getElem?_map,h36,h53,h54,h55m,h55l,h55a,h56m,h56l,h56a,h58m,h58l,h58a,h59m,h59l,h59a]<;>exact rfl)|exact rfl)));(with_reducible refine TD.here ?_))|((with_reducible apply TX.drawn);(focus decide +kernel);(focus (simp only[zl]<;>exact rfl));(focus exact rfl);(try dsimp only))|fail)
       obtain⟨v84,h60,hr⟩:=bs hr
       have T:=an h59m T
       have T:=an h59l T
       have T:=an h59a T
       apply TD.cal (wn T) rfl vV (iB h60) rfl rfl rfl
       repeat exact sd T
       refine wa_ T (g:=?_)
       obtain⟨v85,h61,hr⟩:=bs hr
       have h61m:=bK (f:=e_i) h61
       have h61l:=bZ h61
       try simp only[List.length_set] at h61l
       have h61a:=cB h61
       repeat (first|(with_reducible first|refine mv ?_|refine m12 rfl ?_|refine TD.nil ?_)|((with_reducible first|apply TD.ia|apply TD.ld|apply TD.bin|apply TD.ia);(repeat (focus (show _=_;first|exact k1 rfl|exact k2 rfl|(simp only[zz,y59,e_i,e_ii,Nat.reduceAdd,Nat.reduceMul,Nat.reduceLeDiff,Nat.reduceEqDiff,aA,Nat.zero_add,tload,aV,aU,List.getElem?_map,z5,Int.reduceToNat,Int.reduceLE,Int.reduceLT,Int.cast_ofNat_Int,h36,h53,h54,h55m,h55l,h55a,h56m,h56l,h56a,h58m,h58l,h58a,h59m,h59l,h59a,h61m,h61l,h61a]<;>exact rfl)|exact rfl)));(with_reducible refine TD.here ?_))|((with_reducible apply TX.drawn);(focus decide +kernel);(focus (simp only[zl]<;>exact rfl));(focus exact rfl);(try dsimp only))|fail)
       have T:=an h61m T
       have T:=an h61l T
       have T:=an h61a T
       apply TD.sr e_ii (v53.set v54.toNat ((IntKind.i64.wrap (v76+(IntKind.i64.wrap (v78*v81)))),v77)) (v82,v83) (v82,(IntKind.i64.wrap (v83+(IntKind.i64.wrap (v79*v85))))) h59a (wn T) rfl rfl rfl rfl rfl ok3 (by rw[cs3];rfl) rfl rfl rfl rfl rfl
       repeat exact sd T
       refine wa_ T (g:=?_)
       cases hr
       refine⟨rfl,?_⟩
       exact wk_ T [some 0] rfl (.rows .nil rfl rfl)
      ·have T:=an h54 T
       refine wa_ T (g:=?_)
       obtain⟨⟨v86,v87⟩,h62,hr⟩:=bs hr
       try dsimp only at hr
       have h62m:=bK (f:=e_ii) h62
       have h62l:=bZ h62
       try simp only[List.length_set] at h62l
       have h62a:=cB h62
       repeat (first|(with_reducible first|refine mv ?_|refine m12 rfl ?_|refine TD.nil ?_)|((with_reducible first|apply TD.ia|apply TD.ia|apply TD.ld|apply TD.mv);(repeat (focus (show _=_;first|exact k1 rfl|exact k2 rfl|(simp only[zz,y59,e_i,e_ii,Nat.reduceAdd,Nat.reduceMul,Nat.reduceLeDiff,Nat.reduceEqDiff,aA,Nat.zero_add,z5,Int.reduceToNat,Int.reduceLE,Int.reduceLT,Int.cast_ofNat_Int,tload,aV,aU,List.getElem?_map,h36,h53,h54,h62m,h62l,h62a]<;>exact rfl)|exact rfl)));(with_reducible refine TD.here ?_))|((with_reducible apply TX.drawn);(focus decide +kernel);(focus (simp only[zl]<;>exact rfl));(focus exact rfl);(try dsimp only))|fail)
       obtain⟨⟨v88,v89⟩,h63,hr⟩:=bs hr
       try dsimp only at hr
       have h63m:=bK (f:=e_ii) h63
       have h63l:=bZ h63
       try simp only[List.length_set] at h63l
       have h63a:=cB h63
       repeat (first|(with_reducible first|refine mv ?_|refine m12 rfl ?_|refine TD.nil ?_)|((with_reducible first|apply TD.ia|apply TD.ia|apply TD.ld|apply TD.mv|apply TD.bin);(repeat (focus (show _=_;first|exact k1 rfl|exact k2 rfl|(simp only[zz,y59,e_i,e_ii,Nat.reduceAdd,Nat.reduceMul,Nat.reduceLeDiff,Nat.reduceEqDiff,aA,Nat.zero_add,z5,Int.reduceToNat,Int.reduceLE,Int.reduceLT,Int.cast_ofNat_Int,tload,aV,aU,List.getElem?_map,h36,h53,h54,h62m,h62l,h62a,h63m,h63l,h63a]<;>exact rfl)|exact rfl)));(with_reducible refine TD.here ?_))|((with_reducible apply TX.drawn);(focus decide +kernel);(focus (simp only[zl]<;>exact rfl));(focus exact rfl);(try dsimp only))|fail)
       obtain⟨v90,h64,hr⟩:=bs hr
       have T:=an h62m T
       have T:=an h62l T
       have T:=an h62a T
       have T:=an h63m T
       have T:=an h63l T
       have T:=an h63a T
       apply TD.cal (wn T) rfl vV (iB h64) rfl rfl rfl
       repeat exact sd T
       refine wa_ T (g:=?_)
       obtain⟨v91,h65,hr⟩:=bs hr
       have h65m:=bK (f:=e_i) h65
       have h65l:=bZ h65
       try simp only[List.length_set] at h65l
       have h65a:=cB h65
       repeat (first|(with_reducible first|refine mv ?_|refine m12 rfl ?_|refine TD.nil ?_)|((with_reducible first|apply TD.ia|apply TD.ld|apply TD.bin|apply TD.ia);(repeat (focus (show _=_;first|exact k1 rfl|exact k2 rfl|(simp only[zz,y59,e_i,e_ii,Nat.reduceAdd,Nat.reduceMul,Nat.reduceLeDiff,Nat.reduceEqDiff,aA,Nat.zero_add,tload,aV,aU,List.getElem?_map,z5,Int.reduceToNat,Int.reduceLE,Int.reduceLT,Int.cast_ofNat_Int,h36,h53,h54,h62m,h62l,h62a,h63m,h63l,h63a,h65m,h65l,h65a]<;>exact rfl)|exact rfl)));(with_reducible refine TD.here ?_))|((with_reducible apply TX.drawn);(focus decide +kernel);(focus (simp only[zl]<;>exact rfl));(focus exact rfl);(try dsimp only))|fail)
       have T:=an h65m T
       have T:=an h65l T
       have T:=an h65a T
       apply TD.sr e_ii v53 (v86,v87) ((IntKind.i64.wrap (v86+(IntKind.i64.wrap (v88*v91)))),v87) h62a (wn T) rfl rfl rfl rfl rfl ok3 (by rw[cs3];rfl) rfl rfl rfl rfl rfl
       repeat exact sd T
       refine wa_ T (g:=?_)
       obtain⟨⟨v92,v93⟩,h66,hr⟩:=bs hr
       try dsimp only at hr
       have h66m:=bK (f:=e_ii) h66
       have h66l:=bZ h66
       try simp only[List.length_set] at h66l
       have h66a:=cB h66
       repeat (first|(with_reducible first|refine mv ?_|refine m12 rfl ?_|refine TD.nil ?_)|((with_reducible first|apply TD.ia|apply TD.ia|apply TD.ld|apply TD.mv|apply TD.bin);(repeat (focus (show _=_;first|exact k1 rfl|exact k2 rfl|(simp only[zz,y59,e_i,e_ii,Nat.reduceAdd,Nat.reduceMul,Nat.reduceLeDiff,Nat.reduceEqDiff,aA,Nat.zero_add,z5,Int.reduceToNat,Int.reduceLE,Int.reduceLT,Int.cast_ofNat_Int,tload,aV,aU,List.getElem?_map,h36,h53,h54,h62m,h62l,h62a,h63m,h63l,h63a,h65m,h65l,h65a,h66m,h66l,h66a]<;>exact rfl)|exact rfl)));(with_reducible refine TD.here ?_))|((with_reducible apply TX.drawn);(focus decide +kernel);(focus (simp only[zl]<;>exact rfl));(focus exact rfl);(try dsimp only))|fail)
       obtain⟨v94,h67,hr⟩:=bs hr
       have T:=an h66m T
       have T:=an h66l T
       have T:=an h66a T
       apply TD.cal (wn T) rfl vV (iB h67) rfl rfl rfl
       repeat exact sd T
       refine wa_ T (g:=?_)
       obtain⟨v95,h68,hr⟩:=bs hr
       have h68m:=bK (f:=e_i) h68
       have h68l:=bZ h68
       try simp only[List.length_set] at h68l
       have h68a:=cB h68
       repeat (first|(with_reducible first|refine mv ?_|refine m12 rfl ?_|refine TD.nil ?_)|((with_reducible first|apply TD.ia|apply TD.ld|apply TD.bin|apply TD.ia);(repeat (focus (show _=_;first|exact k1 rfl|exact k2 rfl|(simp only[zz,y59,e_i,e_ii,Nat.reduceAdd,Nat.reduceMul,Nat.reduceLeDiff,Nat.reduceEqDiff,aA,Nat.zero_add,tload,aV,aU,List.getElem?_map,z5,Int.reduceToNat,Int.reduceLE,Int.reduceLT,Int.cast_ofNat_Int,h36,h53,h54,h62m,h62l,h62a,h63m,h63l,h63a,h65m,h65l,h65a,h66m,h66l,h66a,h68m,h68l,h68a]<;>exact rfl)|exact rfl)));(with_reducible refine TD.here ?_))|((with_reducible apply TX.drawn);(focus decide +kernel);(focus (simp only[zl]<;>exact rfl));(focus exact rfl);(try dsimp only))|fail)
       have T:=an h68m T
       have T:=an h68l T
       have T:=an h68a T
       apply TD.sr e_ii (v53.set v7.toNat ((IntKind.i64.wrap (v86+(IntKind.i64.wrap (v88*v91)))),v87)) (v92,v93) (v92,(IntKind.i64.wrap (v93+(IntKind.i64.wrap (v89*v95))))) h66a (wn T) rfl rfl rfl rfl rfl ok3 (by rw[cs3];rfl) rfl rfl rfl rfl rfl
       repeat exact sd T
       refine wa_ T (g:=?_)
       cases hr
       refine⟨rfl,?_⟩
       exact wk_ T [some 0] rfl (.rows .nil rfl rfl)
     ·have T:=an h53 T
      refine wa_ T (g:=?_)
      cases hr
      refine⟨rfl,?_⟩
      exact wk_ T [some 0] rfl (.rows .nil rfl rfl)
    ·intro e h;cases h
    ·try dsimp only
     refine wa_ T (g:=?_)
     cases hr
     refine⟨rfl,?_⟩
     exact wk_ T [some 0] rfl (.rows .nil rfl rfl)
    ·try dsimp only
     exact wk_ T [some 0] rfl (.rows .nil rfl rfl)
   ·have T:=an h36 T
    refine wa_ T (g:=?_)
    cases hr
    refine⟨rfl,?_⟩
    exact wk_ T [some 0] rfl (.rows .nil rfl rfl)
  ·intro e h;cases h
  ·try dsimp only
   refine wa_ T (g:=?_)
   cases hr
   refine⟨.inr rfl,_,(ry T),?_⟩
   exact wr [some 0] rfl (.rows .nil rfl rfl)
  ·try dsimp only
   exact wr [some 0] rfl (.rows .nil rfl rfl)
 rfl
end Go.Rex
namespace Go.Rex
open Go.Proofs
open Go Go.Rex Go.RowKit
set_option maxRecDepth 100000
set_option maxHeartbeats 200000
theorem qC{v1:Int}{v2:Int}{v3:Int}(hr:lF v1 v2=some (v3)):Spec (lim Tryz.prog) 50 [.v (.int .i64 v1),.v (.int .i64 v2)] ⟨[.v (.int .i64 v3)],[]⟩:=by
 unfold lF at hr
 have T:=trivial
 apply Spec.fn Tryz.func50 rfl
 focus (simp[Tryz.f50]<;>exact rfl)
 focus
  refine wa_ T (g:=?_)
  by_cases h1:v2=0
  ·rw[if_pos h1] at hr
   cases hr
  ·rw[if_neg h1] at hr
   have T:=an h1 T
   refine wa_ T (g:=?_)
   rcases ifs hr with⟨h2,hr⟩|⟨h2,hr⟩
   ·have T:=an h2 T
    refine wa_ T (g:=?_)
    cases hr
    refine⟨.inr rfl,_,(ry T),?_⟩
    exact wk_ T [] rfl .nil
   ·have T:=an h2 T
    refine wa_ T (g:=?_)
    cases hr
    refine⟨.inr rfl,_,(ry T),?_⟩
    exact wk_ T [] rfl .nil
 rfl
theorem rP{v1:Int}{v2:Int}(hr:lK v1=some (v2)):Spec (lim Tryz.prog) 118 [.v (.int .i64 v1)] ⟨[.v (.int .i64 v2)],[]⟩:=by
 unfold lK at hr
 have T:=trivial
 apply Spec.fn Tryz.func118 rfl
 focus (simp[Tryz.f118]<;>exact rfl)
 focus
  refine wa_ T (g:=?_)
  apply TO.pop1 (wn T) (Lf rfl)
  repeat exact sd T
  refine wa_ T (g:=?_)
  apply TO.pop1 (wn T) (Tu rfl rfl)
  repeat exact sd T
  refine wa_ T (g:=?_)
  cases hr
  refine⟨.inr rfl,_,(ry T),?_⟩
  exact wr [] rfl .nil
 rfl
end Go.Rex
namespace Go.Rex
open Go.Proofs
open Go Go.Rex Go.RowKit
set_option maxRecDepth 100000
set_option maxHeartbeats 1000000
def y60:=an @ag3 <| an @ar88 <| an @by84 <| an @cs3 <| an @cs84 <| an @cs88 <| an @ni31 <| an @ok3 <| an @ok88 <| an @so31 <| an @so86 <| an @so88 <| an @un3 <| an @un44 <| an @zc84 <| @bM
theorem tT{v1:(List (Int×Int))}{v2:(List (Nat×Nat))}{v3:Bool}(hr:lP v1=some (v2,v3)):Spec (lim Tryz.prog) 93 [.list 2 (v1.map e_ii)] ⟨[.tuple [.lsl 0 0 v2.length,.v (.bool v3)]],[.rows 1 (v2.map e_c)]⟩:=by
 unfold lP at hr
 have T:=an y60 <| an @e_c.eq_1 <| @e_ii.eq_1
 apply Spec.fn Tryz.func93 rfl
 focus (simp[Tryz.f93]<;>exact rfl)
 focus
  refine wa_ T (g:=?_)
  apply TX.vt (α:=(Nat×Nat)) e_c 4 1 rfl
  repeat exact sd T
  with_reducible apply TX.here
  refine wa_ T (g:=?_)
  obtain⟨v17,h15,hr⟩:=bs hr
  refine TX.loopE (step:=bQ v1) (x:=(([]:List (Nat×Nat)),0)) h15 (fun (v4,v5)=>⟨.list 2 (v1.map e_ii)::.Z::.Z::.Z::.lsl 0 0 v4.length::.v (.int .i64 v5)::.Z::.Z::.Z::.Z::.Z::.Z::.Z::.Z::.Z::.Z::.Z::.Z::.Z::.Z::.Z::.Z::.Z::.Z::.Z::.Z::.Z::.Z::.Z::.Z::.Z::.Z::.Z::.Z::.Z::.Z::.Z::.Z::.Z::.Z::.Z::.Z::.Z::.Z::.Z::[],[.rows 1 (v4.map e_c)]⟩) (fun e=>match e with|(.inl _)=>(.ret,⟨.Z::.Z::.v (.slice none 0 0)::.v (.bool false)::.Z::.Z::.Z::.Z::.Z::.Z::.Z::.Z::.Z::.Z::.Z::.Z::.Z::.Z::.Z::.Z::.Z::.Z::.Z::.Z::.Z::.Z::.Z::.Z::.Z::.Z::.Z::.Z::.Z::.Z::.Z::.Z::.Z::.Z::.Z::.Z::.Z::.Z::.Z::.Z::.Z::[],[]⟩)|(.inr v11)=>(.exit 0,⟨.Z::.Z::.Z::.Z::.lsl 0 0 v11.length::.Z::.Z::.Z::.Z::.Z::.Z::.Z::.Z::.Z::.Z::.Z::.Z::.Z::.Z::.Z::.Z::.Z::.Z::.Z::.Z::.Z::.Z::.Z::.Z::.Z::.Z::.Z::.Z::.Z::.Z::.Z::.Z::.Z::.Z::.Z::.Z::.Z::.Z::.Z::.Z::[],[.rows 1 (v11.map e_c)]⟩)) ?_ ?_ ?_ ?_
  ·rintro⟨v4,v5⟩ v0 hr
   dsimp only[bQ] at hr
   try dsimp only
   refine wc_ T (g:=?_)
   rcases ifs hr with⟨h8,hr⟩|⟨h8,hr⟩
   ·have T:=an h8 T
    refine wa_ T (g:=?_)
    obtain⟨⟨v12,v13⟩,h9,hr⟩:=bs hr
    try dsimp only at hr
    have h9m:=bK (f:=e_ii) h9
    have h9l:=bZ h9
    try simp only[List.length_set] at h9l
    have h9a:=cB h9
    repeat (first|(with_reducible first|refine mv ?_|refine m12 rfl ?_|refine TO.nil ?_)|((with_reducible first|apply TO.ia|apply TO.ia|apply TO.ld);(repeat (focus (show _=_;first|exact k1 rfl|exact k2 rfl|(simp only[zz,y60,e_c,e_ii,Nat.reduceAdd,Nat.reduceMul,Nat.reduceLeDiff,Nat.reduceEqDiff,aA,Nat.zero_add,z5,Int.reduceToNat,Int.reduceLE,Int.reduceLT,Int.cast_ofNat_Int,tload,aV,aU,List.getElem?_map,h8,h9m,h9l,h9a]<;>exact rfl)|exact rfl)));(with_reducible apply TO.here))|((with_reducible apply TX.region);(focus (simp only[zl]<;>exact rfl));(focus rfl);(try dsimp only))|fail)
    obtain⟨v14,h10,hr⟩:=bs hr
    have T:=an h9m T
    have T:=an h9l T
    have T:=an h9a T
    apply TO.cal (wn T) rfl La (rP h10) rfl rfl rfl
    repeat exact sd T
    refine wa_ T (g:=?_)
    rcases ifs hr with⟨h11,hr⟩|⟨h11,hr⟩
    ·have T:=an h11 T
     refine wa_ T (g:=?_)
     cases hr
     refine⟨rfl,?_⟩
     exact wk_ T [] rfl .nil
    ·repeat (first|(with_reducible first|refine mv ?_|refine m12 rfl ?_|refine TO.nil ?_)|((with_reducible first|apply TO.mv|apply TO.ia|apply TO.ia|apply TO.ld);(repeat (focus (show _=_;first|exact k1 rfl|exact k2 rfl|(simp only[zz,y60,e_c,e_ii,Nat.reduceAdd,Nat.reduceMul,Nat.reduceLeDiff,Nat.reduceEqDiff,aA,Nat.zero_add,z5,Int.reduceToNat,Int.reduceLE,Int.reduceLT,Int.cast_ofNat_Int,tload,aV,aU,List.getElem?_map,h8,h9m,h9l,h9a,h11]<;>exact rfl)|exact rfl)));(with_reducible apply TO.here))|((with_reducible apply TX.region);(focus (simp only[zl]<;>exact rfl));(focus rfl);(try dsimp only))|fail)
     obtain⟨v15,h12,hr⟩:=bs hr
     have T:=an h11 T
     apply TO.cal (wn T) rfl La (rP h12) rfl rfl rfl
     repeat exact sd T
     refine wa_ T (g:=?_)
     rcases ifs hr with⟨h13,hr⟩|⟨h13,hr⟩
     ·have T:=an h13 T
      refine wa_ T (g:=?_)
      cases hr
      refine⟨rfl,?_⟩
      exact wk_ T [] rfl .nil
     ·repeat (first|(with_reducible first|refine mv ?_|refine m12 rfl ?_|refine TD.nil ?_)|((with_reducible first|apply TD.mv|apply TD.ia|apply TD.ia|apply TD.ld );(repeat (focus (show _=_;first|exact k1 rfl|exact k2 rfl|(simp only[zz,y60,e_c,e_ii,Nat.reduceAdd,Nat.reduceMul,Nat.reduceLeDiff,Nat.reduceEqDiff,aA,Nat.zero_add,z5,Int.reduceToNat,Int.reduceLE,Int.reduceLT,Int.cast_ofNat_Int,tload,aV,aU,List.getElem?_map,h8,h9m,h9l,h9a,h11,h13]<;>exact rfl)|exact rfl)));(with_reducible refine TD.here ?_))|((with_reducible apply TX.drawn);(focus decide +kernel);(focus (simp only[zl]<;>exact rfl));(focus exact rfl);(try dsimp only))|((with_reducible apply TX.cond_true);(focus rfl);(focus (first|rfl|(simp only[z1,zn,h8,h9m,h9l,h9a,h11,h13];done))))|((with_reducible apply TX.cond_false);(focus rfl);(focus (first|rfl|(simp only[z1,zn,h8,h9m,h9l,h9a,h11,h13];done))))|fail)
      have T:=an h13 T
      apply TD.pop1 (wn T) (jG un3 un44 rfl)
      repeat exact sd T
      repeat (first|(with_reducible first|refine mv ?_|refine m12 rfl ?_|refine TD.nil ?_)|((with_reducible first|apply TD.mv|apply TD.ia|apply TD.ia|apply TD.ld );(repeat (focus (show _=_;first|exact k1 rfl|exact k2 rfl|(simp only[zz,y60,e_c,e_ii,Nat.reduceAdd,Nat.reduceMul,Nat.reduceLeDiff,Nat.reduceEqDiff,aA,Nat.zero_add,z5,Int.reduceToNat,Int.reduceLE,Int.reduceLT,Int.cast_ofNat_Int,tload,aV,aU,List.getElem?_map,h8,h9m,h9l,h9a,h11,h13]<;>exact rfl)|exact rfl)));(with_reducible refine TD.here ?_))|((with_reducible apply TX.drawn);(focus decide +kernel);(focus (simp only[zl]<;>exact rfl));(focus exact rfl);(try dsimp only))|fail)
      apply TD.pop1 (wn T) (jG un3 un44 rfl)
      repeat exact sd T
      refine wa_ T (g:=?_)
      apply TD.pop1 (wn T) (rL rfl rfl)
      repeat exact sd T
      refine wa_ T (g:=?_)
      apply TD.bm e_c ([((FloatKind.f32.nearest v12),(FloatKind.f32.nearest v13))]:List (Nat×Nat)) (wn T) rfl (by simp only[zz,y60,e_c,e_ii,Nat.reduceAdd,Nat.reduceMul,Nat.reduceLeDiff,Nat.reduceEqDiff,tslice,tparts,h8,h9m,h9l,h9a,h11,h13];exact rfl) rfl
      repeat exact sd T
      refine wa_ T (g:=?_)
      obtain⟨v16,h14,hr⟩:=bs hr
      apply TD.ap (f:=e_c) (xs:=v4) (ys:=([((FloatKind.f32.nearest v12),(FloatKind.f32.nearest v13))]:List (Nat×Nat))) (wn T) rfl rfl (by first|rfl|simp only[List.length_set]) rfl rfl so31 ni31 zc84 rfl (by rw[by84];exact h14) (fun _=>⟨rfl,rfl,rfl⟩) rfl
      repeat exact sd T
      refine wa_ T (g:=?_)
      cases hr
      refine⟨rfl,?_⟩
      exact wk_ T [some 0] rfl (.rows .nil rfl rfl)
   ·have T:=an h8 T
    refine wa_ T (g:=?_)
    cases hr
    refine⟨rfl,?_⟩
    exact wk_ T [some 0] rfl (.rows .nil rfl rfl)
  ·intro e h;rcases e with _|e<;>cases h
  ·try dsimp only
   rcases v17 with _|v18
   ·try dsimp only at hr
    try dsimp only
    refine wa_ T (g:=?_)
    cases hr
    refine⟨.inr rfl,_,(ry T),?_⟩
    exact wr [none] rfl (.virt .nil)
   ·try dsimp only at hr
    try dsimp only
    refine wa_ T (g:=?_)
    cases hr
    refine⟨.inr rfl,_,(ry T),?_⟩
    exact wr [some 0] rfl (.rows .nil rfl rfl)
  ·try dsimp only
   exact wr [some 0] rfl (.rows .nil rfl rfl)
 rfl
end Go.Rex
namespace Go.Rex
open Go.Proofs
open Go Go.Rex Go.RowKit
set_option maxRecDepth 100000
set_option maxHeartbeats 200000
theorem yY{v1:(List (Int×Int))}{v2:(List (Nat×Nat))}{v3:Int}(hr:fA v1=some (v2,v3)):Spec (lim Tryz.prog) 51 [.list 2 (v1.map e_ii)] ⟨[.tuple [.lsl 0 0 v2.length,.v (.int .i64 v3)]],[.rows 1 (v2.map e_c)]⟩:=by
 unfold fA at hr
 have T:=an @e_c.eq_1 <| @e_ii.eq_1
 apply Spec.fn Tryz.func51 rfl
 focus (simp[Tryz.f51]<;>exact rfl)
 focus
  refine wa_ T (g:=?_)
  obtain⟨⟨v4,v5⟩,h1,hr⟩:=bs hr
  try dsimp only at hr
  apply TO.cal (wn T) rfl Uz (tT h1) rfl rfl rfl
  repeat exact sd T
  refine wa_ T (g:=?_)
  apply TO.pop1 (wn T) (dF rfl)
  repeat exact sd T
  refine wa_ T (g:=?_)
  rcases ifs hr with⟨h2,hr⟩|⟨h2,hr⟩
  ·have T:=an h2 T
   refine wa_ T (g:=?_)
   cases hr
   refine⟨.inr rfl,_,(ry T),?_⟩
   exact wk_ T [some 0] rfl (.rows .nil rfl rfl)
  ·have T:=an h2 T
   refine wa_ T (g:=?_)
   cases hr
   refine⟨.inr rfl,_,(ry T),?_⟩
   exact wk_ T [none] rfl (.virt .nil)
 rfl
end Go.Rex
namespace Go.Rex
open Go.Proofs
open Go Go.Rex Go.RowKit
set_option maxRecDepth 100000
set_option maxHeartbeats 1000000
def y61:=an @ag26 <| an @ag3 <| an @ag88 <| an @ar88 <| an @cs26 <| an @cs3 <| an @cs88 <| an @ok26 <| an @ok3 <| an @ok88 <| an @so31 <| an @so86 <| an @so88 <| an @zc88 <| an @bM <| @nD
theorem sP{v1:(List (Nat×Nat))}{v2:Int}{v3:(List Int)}{v4:Int}{v5:(List (Nat×Nat))}{v6:Int}(hr:cQ v1 v2 v3 v4=some (v5,v6)):Spec (lim Tryz.prog) 11 [.list 1 (v1.map e_c),.agg [.v (.int .i64 v2),.list 1 (v3.map e_i)],.v (.int .i64 v4)] ⟨[.tuple [.lsl 0 0 v5.length,.v (.int .i64 v6)]],[.rows 1 (v5.map e_c)]⟩:=by
 unfold cQ at hr
 have T:=an y61 <| an @e_c.eq_1 <| an @e_i.eq_1 <| @e_ii.eq_1
 apply Spec.fn Tryz.func11 rfl
 focus (simp[Tryz.f11]<;>exact rfl)
 focus
  refine wb_ T (g:=?_)
  obtain⟨v7,h1,hr⟩:=bs hr
  apply TO.cal (wn T) rfl Uu (tJ h1) rfl rfl rfl
  repeat exact sd T
  refine wa_ T (g:=?_)
  rcases ifs hr with⟨h2,hr⟩|⟨h2,hr⟩
  ·have T:=an h2 T
   refine wa_ T (g:=?_)
   cases hr
   refine⟨.inr rfl,_,(ry T),?_⟩
   exact wk_ T [none] rfl (.virt .nil)
  ·have T:=an h2 T
   refine wA T (g:=?_)
   obtain⟨v8,h3,hr⟩:=bs hr
   apply TO.cal (wn T) rfl Vm (sM h3) rfl rfl rfl
   repeat exact sd T
   refine wa_ T (g:=?_)
   rcases ifs hr with⟨h4,hr⟩|⟨h4,hr⟩
   ·have T:=an h4 T
    refine wa_ T (g:=?_)
    cases hr
    refine⟨.inr rfl,_,(ry T),?_⟩
    exact wk_ T [none] rfl (.virt .nil)
   ·have T:=an h4 T
    refine wA T (g:=?_)
    obtain⟨v9,h5,hr⟩:=bs hr
    apply TO.cal (wn T) rfl Vv (rF h5) rfl rfl rfl
    repeat exact sd T
    refine wa_ T (g:=?_)
    apply TO.pop1 (wn T) (dF rfl)
    repeat exact sd T
    refine wa_ T (g:=?_)
    rcases ifs hr with⟨h6,hr⟩|⟨h6,hr⟩
    ·have T:=an h6 T
     refine wA T (g:=?_)
     obtain⟨v10,h7,hr⟩:=bs hr
     apply TO.cal (wn T) rfl Gh (jP h7) rfl rfl rfl
     repeat exact sd T
     refine wc_ T (g:=?_)
     rcases ifs hr with⟨h8,hr⟩|⟨h8,hr⟩
     ·have T:=an h8 T
      refine wa_ T (g:=?_)
      cases hr
      refine⟨.inr rfl,_,(ry T),?_⟩
      exact wk_ T [none] rfl (.virt .nil)
     ·have T:=an h8 T
      refine wa_ T (g:=?_)
      obtain⟨v11,h9,hr⟩:=bs hr
      apply TO.cal (wn T) rfl Uo (wJ h9) rfl rfl rfl
      repeat exact sd T
      refine wa_ T (g:=?_)
      obtain⟨v12,h10,hr⟩:=bs hr
      apply TO.lok (wn T) rfl Vh (uU h10) (vw T) rfl rfl (by simp[tZ,cl,e_ff,e_c,e_i,e_ii])
      repeat exact sd T
      refine wa_ T (g:=?_)
      obtain⟨⟨v13,v14⟩,h11,hr⟩:=bs hr
      try dsimp only at hr
      have h11m:=bK (f:=e_ii) h11
      have h11l:=bZ h11
      try simp only[List.length_set] at h11l
      have h11a:=cB h11
      have T:=an h11m T
      have T:=an h11l T
      have T:=an h11a T
      refine wA T (g:=?_)
      obtain⟨v15,h12,hr⟩:=bs hr
      apply TO.cal (wn T) rfl Wm (wM h12) rfl rfl rfl
      repeat exact sd T
      refine wa_ T (g:=?_)
      obtain⟨v16,h13,hr⟩:=bs hr
      apply TO.lok (wn T) rfl We (vQ h13) (vw T) rfl rfl (by simp[tZ,cl,e_ff,e_c,e_i,e_ii])
      repeat exact sd T
      refine wa_ T (g:=?_)
      obtain⟨v36,h34,hr⟩:=bs hr
      refine TX.loopE (step:=cJ v10 v13 v14) (x:=(v16,0)) h34 (fun (v17,v18)=>⟨.Z::.Z::.Z::.Z::.Z::.Z::.Z::.Z::.Z::.Z::.v (.int .i64 v10)::.Z::.lptr 0 0 0::.lsl 1 0 v17.length::.v (.int .i64 v18)::.Z::.Z::.Z::.Z::.Z::.Z::.Z::.Z::.Z::.Z::.Z::.Z::.Z::.Z::.Z::.Z::.Z::.Z::.Z::.Z::.Z::.Z::.Z::.Z::.Z::.Z::.Z::.Z::.Z::.Z::.Z::.Z::.Z::.Z::.Z::.Z::.Z::.Z::.Z::.Z::.Z::.Z::.Z::.Z::.Z::.Z::.Z::.Z::.Z::.Z::.Z::.Z::.Z::.Z::.Z::.Z::.Z::.Z::.Z::.Z::.Z::.Z::.Z::.Z::.Z::.Z::.Z::.Z::.Z::.Z::[],[.var [.v (.int .i64 v13),.v (.int .i64 v14)],.rows 2 (v17.map e_ii)]⟩) (fun e=>match e with|(.inl _)=>(.ret,⟨.Z::.Z::.Z::.Z::.Z::.Z::.v (.slice none 0 0)::.v (.int .i64 20)::.Z::.Z::.Z::.Z::.Z::.Z::.Z::.Z::.Z::.Z::.Z::.Z::.Z::.Z::.Z::.Z::.Z::.Z::.Z::.Z::.Z::.Z::.Z::.Z::.Z::.Z::.Z::.Z::.Z::.Z::.Z::.Z::.Z::.Z::.Z::.Z::.Z::.Z::.Z::.Z::.Z::.Z::.Z::.Z::.Z::.Z::.Z::.Z::.Z::.Z::.Z::.Z::.Z::.Z::.Z::.Z::.Z::.Z::.Z::.Z::.Z::.Z::.Z::.Z::.Z::.Z::.Z::.Z::.Z::.Z::.Z::.Z::.Z::.Z::.Z::.Z::.Z::[],[]⟩)|(.inr v27)=>(.exit 0,⟨.Z::.Z::.Z::.Z::.Z::.Z::.Z::.Z::.Z::.Z::.Z::.Z::.Z::.lsl 0 0 v27.length::.Z::.Z::.Z::.Z::.Z::.Z::.Z::.Z::.Z::.Z::.Z::.Z::.Z::.Z::.Z::.Z::.Z::.Z::.Z::.Z::.Z::.Z::.Z::.Z::.Z::.Z::.Z::.Z::.Z::.Z::.Z::.Z::.Z::.Z::.Z::.Z::.Z::.Z::.Z::.Z::.Z::.Z::.Z::.Z::.Z::.Z::.Z::.Z::.Z::.Z::.Z::.Z::.Z::.Z::.Z::.Z::.Z::.Z::.Z::.Z::.Z::.Z::.Z::.Z::.Z::.Z::.Z::.Z::.Z::.Z::.Z::[],[.rows 2 (v27.map e_ii)]⟩)) ?_ ?_ ?_ ?_
      ·rintro⟨v17,v18⟩ v0 hr
       dsimp only[cJ] at hr
       try dsimp only
       refine wa_ T (g:=?_)
       rcases ifs hr with⟨h24,hr⟩|⟨h24,hr⟩
       ·have T:=an h24 T
        refine wa_ T (g:=?_)
        refine TX.unroll ?_
        refine wa_ T (g:=?_)
        obtain⟨⟨v28,v29⟩,h25,hr⟩:=bs hr
        try dsimp only at hr
        have h25m:=bK (f:=e_ii) h25
        have h25l:=bZ h25
        try simp only[List.length_set] at h25l
        have h25a:=cB h25
        repeat (first|(with_reducible first|refine mv ?_|refine m12 rfl ?_|refine TO.nil ?_)|((with_reducible first|apply TO.mv|apply TO.bin);(repeat (focus (show _=_;first|exact k1 rfl|exact k2 rfl|(simp only[zz,y61,e_c,e_i,e_ii,Nat.reduceAdd,Nat.reduceMul,Nat.reduceLeDiff,Nat.reduceEqDiff,h2,h4,h6,h8,h11m,h11l,h11a,h24,h25m,h25l,h25a]<;>exact rfl)|exact rfl)));(with_reducible apply TO.here))|((with_reducible apply TX.region);(focus (simp only[zl]<;>exact rfl));(focus rfl);(try dsimp only))|with_reducible refine TD.nil ?_|((with_reducible first|apply TD.ia|apply TD.ia|apply TD.ld|apply TD.mv|apply TD.bin|apply TD.asg);(repeat (focus (show _=_;first|exact k1 rfl|exact k2 rfl|(simp only[zz,y61,e_c,e_i,e_ii,Nat.reduceAdd,Nat.reduceMul,Nat.reduceLeDiff,Nat.reduceEqDiff,aA,Nat.zero_add,z5,Int.reduceToNat,Int.reduceLE,Int.reduceLT,Int.cast_ofNat_Int,tload,aV,aU,List.getElem?_map,h2,h4,h6,h8,h11m,h11l,h11a,h24,h25m,h25l,h25a]<;>exact rfl)|exact rfl)));(with_reducible refine TD.here ?_))|((with_reducible apply TX.drawn);(focus decide +kernel);(focus (simp only[zl]<;>exact rfl));(focus exact rfl);(try dsimp only))|fail)
        obtain⟨v30,h26,hr⟩:=bs hr
        have T:=an h25m T
        have T:=an h25l T
        have T:=an h25a T
        apply TO.cal (wn T) rfl vV (iB h26) rfl rfl rfl
        repeat exact sd T
        refine wa_ T (g:=?_)
        rcases ifs hr with⟨h27,hr⟩|⟨h27,hr⟩
        ·have T:=an h27 T
         refine wa_ T (g:=?_)
         cases hr
         refine⟨rfl,?_⟩
         exact wk_ T [] rfl .nil
        ·have T:=an h27 T
         refine wa_ T (g:=?_)
         obtain⟨v31,h28,hr⟩:=bs hr
         apply TD.cal (wn T) rfl Qq (qC h28) rfl rfl rfl
         repeat exact sd T
         repeat (first|(with_reducible first|refine mv ?_|refine m12 rfl ?_|refine TD.nil ?_)|((with_reducible first|apply TD.ia|apply TD.ia);(repeat (focus (show _=_;first|exact k1 rfl|exact k2 rfl|(simp only[zz,y61,e_c,e_i,e_ii,Nat.reduceAdd,Nat.reduceMul,Nat.reduceLeDiff,Nat.reduceEqDiff,aA,Nat.zero_add,z5,Int.reduceToNat,Int.reduceLE,Int.reduceLT,Int.cast_ofNat_Int,h2,h4,h6,h8,h11m,h11l,h11a,h24,h25m,h25l,h25a,h27]<;>exact rfl)|exact rfl)));(with_reducible refine TD.here ?_))|((with_reducible apply TX.drawn);(focus decide +kernel);(focus (simp only[zl]<;>exact rfl));(focus exact rfl);(try dsimp only))|fail)
         apply TD.sr e_ii v17 (v28,v29) (v31,v29) h25a (wn T) rfl rfl rfl rfl rfl ok3 (by rw[cs3];rfl) rfl rfl rfl rfl rfl
         repeat exact sd T
         refine wa_ T (g:=?_)
         refine TX.unroll ?_
         refine wa_ T (g:=?_)
         obtain⟨⟨v32,v33⟩,h29,hr⟩:=bs hr
         try dsimp only at hr
         have h29m:=bK (f:=e_ii) h29
         have h29l:=bZ h29
         try simp only[List.length_set] at h29l
         have h29a:=cB h29
         repeat (first|(with_reducible first|refine mv ?_|refine m12 rfl ?_|refine TO.nil ?_)|((with_reducible first|apply TO.mv|apply TO.bin);(repeat (focus (show _=_;first|exact k1 rfl|exact k2 rfl|(simp only[zz,y61,e_c,e_i,e_ii,Nat.reduceAdd,Nat.reduceMul,Nat.reduceLeDiff,Nat.reduceEqDiff,h2,h4,h6,h8,h11m,h11l,h11a,h24,h25m,h25l,h25a,h27,h29m,h29l,h29a]<;>exact rfl)|exact rfl)));(with_reducible apply TO.here))|((with_reducible apply TX.region);(focus (simp only[zl]<;>exact rfl));(focus rfl);(try dsimp only))|with_reducible refine TD.nil ?_|((with_reducible first|apply TD.ia|apply TD.ia|apply TD.ld|apply TD.mv|apply TD.bin|apply TD.asg);(repeat (focus (show _=_;first|exact k1 rfl|exact k2 rfl|(simp only[zz,y61,e_c,e_i,e_ii,Nat.reduceAdd,Nat.reduceMul,Nat.reduceLeDiff,Nat.reduceEqDiff,aA,Nat.zero_add,z5,Int.reduceToNat,Int.reduceLE,Int.reduceLT,Int.cast_ofNat_Int,tload,aV,aU,List.getElem?_map,h2,h4,h6,h8,h11m,h11l,h11a,h24,h25m,h25l,h25a,h27,h29m,h29l,h29a]<;>exact rfl)|exact rfl)));(with_reducible refine TD.here ?_))|((with_reducible apply TX.drawn);(focus decide +kernel);(focus (simp only[zl]<;>exact rfl));(focus exact rfl);(try dsimp only))|fail)
         obtain⟨v34,h30,hr⟩:=bs hr
         have T:=an h29m T
         have T:=an h29l T
         have T:=an h29a T
         apply TO.cal (wn T) rfl vV (iB h30) rfl rfl rfl
         repeat exact sd T
         refine wa_ T (g:=?_)
         rcases ifs hr with⟨h31,hr⟩|⟨h31,hr⟩
         ·have T:=an h31 T
          refine wa_ T (g:=?_)
          cases hr
          refine⟨rfl,?_⟩
          exact wk_ T [] rfl .nil
         ·have T:=an h31 T
          refine wa_ T (g:=?_)
          obtain⟨v35,h32,hr⟩:=bs hr
          apply TD.cal (wn T) rfl Qq (qC h32) rfl rfl rfl
          repeat exact sd T
          repeat (first|(with_reducible first|refine mv ?_|refine m12 rfl ?_|refine TD.nil ?_)|((with_reducible first|apply TD.ia|apply TD.ia);(repeat (focus (show _=_;first|exact k1 rfl|exact k2 rfl|(simp only[zz,y61,e_c,e_i,e_ii,Nat.reduceAdd,Nat.reduceMul,Nat.reduceLeDiff,Nat.reduceEqDiff,aA,Nat.zero_add,z5,Int.reduceToNat,Int.reduceLE,Int.reduceLT,Int.cast_ofNat_Int,h2,h4,h6,h8,h11m,h11l,h11a,h24,h25m,h25l,h25a,h27,h29m,h29l,h29a,h31]<;>exact rfl)|exact rfl)));(with_reducible refine TD.here ?_))|((with_reducible apply TX.drawn);(focus decide +kernel);(focus (simp only[zl]<;>exact rfl));(focus exact rfl);(try dsimp only))|fail)
          apply TD.sr e_ii (v17.set v18.toNat (v31,v29)) (v32,v33) (v32,v35) h29a (wn T) rfl rfl rfl rfl rfl ok3 (by rw[cs3];rfl) rfl rfl rfl rfl rfl
          repeat exact sd T
          refine wa_ T (g:=?_)
          obtain⟨_,h33,hr⟩:=bs hr
          refine TX.loopE (step:=iH) (x:=()) h33 (fun _=>⟨.Z::.Z::.Z::.Z::.Z::.Z::.Z::.Z::.Z::.Z::.v (.int .i64 v10)::.Z::.lptr 0 0 0::.lsl 1 0 v17.length::.v (.int .i64 v18)::.v (.int .i64 2)::.Z::.Z::.Z::.Z::.Z::.Z::.Z::.Z::.Z::.Z::.Z::.Z::.Z::.Z::.Z::.Z::.Z::.Z::.Z::.Z::.Z::.Z::.Z::.Z::.Z::.Z::.Z::.Z::.Z::.Z::.Z::.Z::.Z::.Z::.Z::.Z::.Z::.Z::.Z::.Z::.Z::.Z::.Z::.Z::.Z::.Z::.Z::.Z::.Z::.Z::.Z::.Z::.Z::.Z::.Z::.Z::.Z::.Z::.Z::.Z::.Z::.Z::.Z::.Z::.Z::.Z::.Z::.Z::.Z::[],[.var [.v (.int .i64 v13),.v (.int .i64 v14)],.rows 2 (((v17.set v18.toNat (v31,v29)).set v18.toNat (v32,v35)).map e_ii)]⟩) (fun _=>(.exit 2,⟨.Z::.Z::.Z::.Z::.Z::.Z::.Z::.Z::.Z::.Z::.v (.int .i64 v10)::.Z::.lptr 0 0 0::.lsl 1 0 v17.length::.v (.int .i64 v18)::.Z::.Z::.Z::.Z::.Z::.Z::.Z::.Z::.Z::.Z::.Z::.Z::.Z::.Z::.Z::.Z::.Z::.Z::.Z::.Z::.Z::.Z::.Z::.Z::.Z::.Z::.Z::.Z::.Z::.Z::.Z::.Z::.Z::.Z::.Z::.Z::.Z::.Z::.Z::.Z::.Z::.Z::.Z::.Z::.Z::.Z::.Z::.Z::.Z::.Z::.Z::.Z::.Z::.Z::.Z::.Z::.Z::.Z::.Z::.Z::.Z::.Z::.Z::.Z::.Z::.Z::.Z::.Z::.Z::.Z::[],[.var [.v (.int .i64 v13),.v (.int .i64 v14)],.rows 2 (((v17.set v18.toNat (v31,v29)).set v18.toNat (v32,v35)).map e_ii)]⟩)) ?_ ?_ ?_ ?_
          ·rintro _ v0 hr
           dsimp only[iH] at hr
           try dsimp only
           refine wa_ T (g:=?_)
           cases hr
           refine⟨rfl,?_⟩
           exact wk_ T [some 0,some 1] rfl (rv (.rows .nil rfl rfl) rfl)
          ·intro e h;cases h
          ·try dsimp only
           refine wa_ T (g:=?_)
           cases hr
           refine⟨rfl,?_⟩
           exact wk_ T [some 0,some 1] rfl (rv (.rows .nil rfl rfl) rfl)
          ·try dsimp only
           exact wk_ T [some 0,some 1] rfl (rv (.rows .nil rfl rfl) rfl)
       ·have T:=an h24 T
        refine wa_ T (g:=?_)
        cases hr
        refine⟨rfl,?_⟩
        exact wk_ T [some 1] rfl (.rows .nil rfl rfl)
      ·intro e h;rcases e with _|e<;>cases h
      ·try dsimp only
       rcases v36 with _|v37
       ·try dsimp only at hr
        try dsimp only
        refine wa_ T (g:=?_)
        cases hr
        refine⟨.inr rfl,_,(ry T),?_⟩
        exact wk_ T [none] rfl (.virt .nil)
       ·try dsimp only at hr
        try dsimp only
        refine wa_ T (g:=?_)
        obtain⟨⟨v38,v39⟩,h35,hr⟩:=bs hr
        try dsimp only at hr
        apply TO.lok (wn T) rfl Wt (yY h35) (vw T) rfl rfl (by simp[tZ,cl,e_ff,e_c,e_i,e_ii])
        repeat exact sd T
        refine wa_ T (g:=?_)
        cases hr
        refine⟨.inr rfl,_,(ry T),?_⟩
        exact wk_ T [some 1] rfl (.rows .nil rfl rfl)
      ·try dsimp only
       exact wk_ T [some 2,some 4] rfl (rv (.rows .nil rfl rfl) rfl)
    ·have T:=an h6 T
     refine wa_ T (g:=?_)
     cases hr
     refine⟨.inr rfl,_,(ry T),?_⟩
     exact wk_ T [none] rfl (.virt .nil)
 rfl
end Go.Rex
namespace Go.Rex
open Go.Proofs
open Go Go.Rex Go.RowKit
set_option maxRecDepth 100000
set_option maxHeartbeats 200000
def y62:=@ex94
theorem tN{v1:Nat}{v2:Nat}{v3:Nat}{v4:Nat}{v5:Bool}(hr:lL v1 v2 v3 v4=some (v5)):Spec (lim Tryz.prog) 52 [.v (.complex .f64 v1 v2),.v (.complex .f64 v3 v4)] ⟨[.v (.bool v5)],[]⟩:=by
 unfold lL at hr
 have T:=y62
 apply Spec.fn Tryz.func52 rfl
 focus (simp[Tryz.f52]<;>exact rfl)
 focus
  refine wa_ T (g:=?_)
  apply TO.pop1 (wn T) (oS rfl)
  repeat exact sd T
  refine wa_ T (g:=?_)
  obtain⟨v6,h1,hr⟩:=bs hr
  apply TO.fb (wn T) rfl ex94 (by simp only[z1,z3,zl]<;>rfl) h1 rfl
  repeat exact sd T
  refine wa_ T (g:=?_)
  apply TO.pop1 (wn T) (oS rfl)
  repeat exact sd T
  refine wa_ T (g:=?_)
  obtain⟨v7,h2,hr⟩:=bs hr
  apply TO.fb (wn T) rfl ex94 (by simp only[z1,z3,zl]<;>rfl) h2 rfl
  repeat exact sd T
  refine wa_ T (g:=?_)
  rcases ifs hr with⟨h3,hr⟩|⟨h3,hr⟩
  ·have T:=an h3 T
   refine wa_ T (g:=?_)
   apply TO.pop1 (wn T) (oX rfl)
   repeat exact sd T
   refine wa_ T (g:=?_)
   obtain⟨v8,h4,hr⟩:=bs hr
   apply TO.fb (wn T) rfl ex94 (by simp only[z1,z3,zl]<;>rfl) h4 rfl
   repeat exact sd T
   refine wa_ T (g:=?_)
   apply TO.pop1 (wn T) (oX rfl)
   repeat exact sd T
   refine wa_ T (g:=?_)
   obtain⟨v9,h5,hr⟩:=bs hr
   apply TO.fb (wn T) rfl ex94 (by simp only[z1,z3,zl]<;>rfl) h5 rfl
   repeat exact sd T
   refine wa_ T (g:=?_)
   cases hr
   refine⟨.inr rfl,_,(ry T),?_⟩
   exact wk_ T [] rfl .nil
  ·have T:=an h3 T
   refine wa_ T (g:=?_)
   cases hr
   refine⟨.inr rfl,_,(ry T),?_⟩
   exact wk_ T [] rfl .nil
 rfl
def y63:=an @ag84 <| an @cs84 <| an @ok84 <| an @so31 <| an @un84 <| an @un94 <| @bM
theorem qG{v1:(List (Nat×Nat))}{v2:(List (Nat×Nat))}{v3:Bool}(hr:aR v1 v2=some (v3)):Spec (lim Tryz.prog) 12 [.list 1 (v1.map e_c),.list 1 (v2.map e_c)] ⟨[.v (.bool v3)],[]⟩:=by
 unfold aR at hr
 have T:=an y63 <| @e_c.eq_1
 apply Spec.fn Tryz.func12 rfl
 focus (simp[Tryz.f12]<;>exact rfl)
 focus
  refine wc_ T (g:=?_)
  rcases ifs hr with⟨h1,hr⟩|⟨h1,hr⟩
  ·have T:=an h1 T
   refine wa_ T (g:=?_)
   cases hr
   refine⟨.inr rfl,_,(ry T),?_⟩
   exact wk_ T [] rfl .nil
  ·have T:=an h1 T
   refine wa_ T (g:=?_)
   obtain⟨v23,h20,hr⟩:=bs hr
   refine TX.loopE (step:=dR v1 v2) (x:=0) h20 (fun v4=>⟨.list 1 (v1.map e_c)::.list 1 (v2.map e_c)::.Z::.Z::.Z::.v (.int .i64 v4)::.Z::.Z::.Z::.Z::.Z::.Z::.Z::.Z::.Z::.Z::.Z::.Z::.Z::.Z::.Z::.Z::.Z::.Z::.Z::.Z::.Z::.Z::.Z::[],[]⟩) (fun e=>match e with|(.inl _)=>(.ret,⟨.Z::.Z::.Z::.Z::.v (.bool false)::.Z::.Z::.Z::.Z::.Z::.Z::.Z::.Z::.Z::.Z::.Z::.Z::.Z::.Z::.Z::.Z::.Z::.Z::.Z::.Z::.Z::.Z::.Z::.Z::[],[]⟩)|(.inr _)=>(.exit 0,⟨.Z::.Z::.Z::.Z::.Z::.Z::.Z::.Z::.Z::.Z::.Z::.Z::.Z::.Z::.Z::.Z::.Z::.Z::.Z::.Z::.Z::.Z::.Z::.Z::.Z::.Z::.Z::.Z::.Z::[],[]⟩)) ?_ ?_ ?_ ?_
   ·rintro v4 v0 hr
    dsimp only[dR] at hr
    try dsimp only
    refine wc_ T (g:=?_)
    rcases ifs hr with⟨h11,hr⟩|⟨h11,hr⟩
    ·have T:=an h11 T
     refine wa_ T (g:=?_)
     obtain⟨⟨v14,v15⟩,h12,hr⟩:=bs hr
     try dsimp only at hr
     have T:=an (gx e_c h12) T
     refine wA T (g:=?_)
     obtain⟨v16,h13,hr⟩:=bs hr
     obtain⟨v17,h14,hr⟩:=bs hr
     apply TD.pop1 (wn T) (xQ un84 un94 rfl h13 h14)
     repeat exact sd T
     refine wa_ T (g:=?_)
     obtain⟨⟨v18,v19⟩,h15,hr⟩:=bs hr
     try dsimp only at hr
     have T:=an (gx e_c h15) T
     refine wA T (g:=?_)
     obtain⟨v20,h16,hr⟩:=bs hr
     obtain⟨v21,h17,hr⟩:=bs hr
     apply TD.pop1 (wn T) (xQ un84 un94 rfl h16 h17)
     repeat exact sd T
     refine wa_ T (g:=?_)
     obtain⟨v22,h18,hr⟩:=bs hr
     apply TD.cal (wn T) rfl Vd (tN h18) rfl rfl rfl
     repeat exact sd T
     refine wa_ T (g:=?_)
     apply TD.pop1 (wn T) (dF rfl)
     repeat exact sd T
     refine wa_ T (g:=?_)
     rcases ifs hr with⟨h19,hr⟩|⟨h19,hr⟩
     ·have T:=an h19 T
      refine wa_ T (g:=?_)
      cases hr
      refine⟨rfl,?_⟩
      exact wk_ T [] rfl .nil
     ·have T:=an h19 T
      refine wa_ T (g:=?_)
      cases hr
      refine⟨rfl,?_⟩
      exact wk_ T [] rfl .nil
    ·have T:=an h11 T
     refine wa_ T (g:=?_)
     cases hr
     refine⟨rfl,?_⟩
     exact wk_ T [] rfl .nil
   ·intro e h;rcases e with _|e<;>cases h
   ·try dsimp only
    rcases v23 with _|_
    ·try dsimp only at hr
     try dsimp only
     refine wa_ T (g:=?_)
     cases hr
     refine⟨.inr rfl,_,(ry T),?_⟩
     exact wk_ T [] rfl .nil
    ·try dsimp only at hr
     try dsimp only
     refine wa_ T (g:=?_)
     cases hr
     refine⟨.inr rfl,_,(ry T),?_⟩
     exact wk_ T [] rfl .nil
   ·try dsimp only
    exact wk_ T [] rfl .nil
 rfl
end Go.Rex
namespace Go.Rex
open Go.Proofs
open Go Go.Rex Go.RowKit
set_option maxRecDepth 100000
theorem follows:Tryz.prog.follows .mixedOrders=true:=by decide +kernel
theorem awake_true:AwT Tryz.prog 6:=Es follows (k:=1000) (d:=50) (by decide +kernel)
end Go.Rex
namespace Go.Rex
open Go.Proofs
open Go Go.Rex Go.RowKit
set_option maxRecDepth 100000
set_option maxHeartbeats 4000000
def y64:=an @ag24 <| an @ag26 <| an @ag3 <| an @cs26 <| an @xE <| an @Wf <| an @Wb <| an @ok26 <| @so24
theorem pV{v1:(List (Nat×Nat))}{v2:Int}{v3:(List Int)}{v4:Int}(hr:gN v1 v2 v3 v4=some true){Fz:Nat→Prop}{h:List Blk}{vs:List Value}(hfz:FZ Fz h)(hargs:VLs Fz h noL [.list 2 (v1.map e_ff), .agg [.v (.int .i64 v2), .list 1 (v3.map e_i), .v (.int .i64 v4)]] vs)
 {B lo:Nat} {D:Nat→Prop} {m:NMap} {w:World} {args':List Value} (hrel:Rel B lo D m h w) (hlo:lo≤h.length) (hargs':VRs D m vs args'):Calls Tryz.prog 3 ⟨args'⟩ w (fun e w'=>e = .returned (.bool true)∧Below w.heap.size w w'):=by
 unfold gN at hr
 have T:=an y64 <| an @e_ff.eq_1 <| @e_i.eq_1
 refine Tn follows awake_true Tryz.func3 rfl (tm0:=.list 2 (v1.map e_ff)::.agg [.v (.int .i64 v2),.list 1 (v3.map e_i),.v (.int .i64 v4)]::.Z::.Z::.Z::.Z::.Z::.Z::.Z::.Z::.Z::.Z::.Z::.Z::.Z::.Z::.Z::.Z::.Z::.Z::.Z::.Z::.Z::.Z::.Z::.Z::.Z::.Z::.Z::.Z::.Z::.Z::.Z::.Z::.Z::.Z::.Z::.Z::.Z::.Z::.Z::.Z::.Z::.Z::.Z::.Z::.Z::.Z::.Z::.Z::[]) (by simp[Tryz.f3]<;>exact rfl) ?_ hfz hargs hrel hlo hargs'
 refine wb_ T (g:=?_)
 apply TO.cal (wn T) rfl Xw Spec.awake rfl rfl rfl
 repeat exact sd T
 refine wa_ T (g:=?_)
 apply TO.pop1 (wn T) (dF rfl)
 repeat exact sd T
 refine wa_ T (g:=?_)
 obtain⟨v6,h1,hr⟩:=bs hr
 apply TO.cal (wn T) rfl Yb (Spec.ov (zT h1) (by decide)) rfl rfl rfl
 repeat exact sd T
 refine wa_ T (g:=?_)
 apply TO.pop1 (wn T) (dF rfl)
 repeat exact sd T
 refine wa_ T (g:=?_)
 rcases ifs hr with⟨h2,hr⟩|⟨h2,hr⟩
 ·have T:=an h2 T
  refine wC T (g:=?_)
  rcases ifs hr with⟨h3,hr⟩|⟨h3,hr⟩
  ·have T:=an h3 T
   refine wa_ T (g:=?_)
   exact lv T hr
  ·have T:=an h3 T
   refine wa_ T (g:=?_)
   obtain⟨v7,h4,hr⟩:=bs hr
   apply TD.cal (wn T) rfl Um (Spec.ov (pY h4) (by decide)) rfl rfl rfl
   repeat exact sd T
   refine wA T (g:=?_)
   obtain⟨⟨v8,v9⟩,h5,hr⟩:=bs hr
   try dsimp only at hr
   apply TD.cal (wn T) rfl Wj (Spec.ov (yV h5) (by decide)) rfl rfl rfl
   repeat exact sd T
   refine wA T (g:=?_)
   obtain⟨⟨v10,v11⟩,h6,hr⟩:=bs hr
   try dsimp only at hr
   apply TD.lok (wn T) rfl Xk (Spec.ov (sN h6) (by decide)) (vw T) rfl rfl (by simp[tZ,cl,e_ff,e_c,e_i,e_ii])
   repeat exact sd T
   refine wa_ T (g:=?_)
   obtain⟨v12,h7,hr⟩:=bs hr
   apply TD.cal (wn T) rfl Um (Spec.ov (pY h7) (by decide)) rfl rfl rfl
   repeat exact sd T
   refine wA T (g:=?_)
   obtain⟨⟨v13,v14⟩,h8,hr⟩:=bs hr
   try dsimp only at hr
   apply TD.lok (wn T) rfl Wr (Spec.ov (sP h8) (by decide)) (vw T) rfl rfl (by simp[tZ,cl,e_ff,e_c,e_i,e_ii])
   repeat exact sd T
   refine wa_ T (g:=?_)
   rcases ifs hr with⟨h9,hr⟩|⟨h9,hr⟩
   ·have T:=an h9 T
    refine wa_ T (g:=?_)
    obtain⟨v15,h10,hr⟩:=bs hr
    apply TO.lok (wn T) rfl Uv (Spec.ov (qG h10) (by decide)) (vw T) rfl rfl (by simp[tZ,cl,e_ff,e_c,e_i,e_ii])
    repeat exact sd T
    refine wa_ T (g:=?_)
    exact lv T hr
   ·have T:=an h9 T
    refine wa_ T (g:=?_)
    exact lv T hr
 ·have T:=an h2 T
  refine wa_ T (g:=?_)
  exact lv T hr
end Go.Rex
