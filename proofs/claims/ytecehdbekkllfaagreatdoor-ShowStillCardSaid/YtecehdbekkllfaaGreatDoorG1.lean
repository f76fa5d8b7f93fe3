/- Proofs that the program's functions do what these plain functions say. -/
import Derived.Test.YtecehdbekkllfaaGreatDoorGB
import Derived.Test.YtecehdbekkllfaaGreatDoorS
import Derived.Test.YtecehdbekkllfaaGreatDoorCZ
set_option linter.unusedSimpArgs false
set_option linter.unusedVariables false
set_option linter.defProp false
namespace Go.Rex
open Go.Proofs
open Go Go.Rex Go.RowKit
set_option maxRecDepth 100000
set_option maxHeartbeats 200000
def y1:=@so28
theorem gJ{v1:(List Int)}{v2:Bool}(hr:dY v1=some (v2)):Spec (lim Tryz.prog) 19 [.list 1 (v1.map e_i)] ⟨[.v (.bool v2)],[]⟩:=by
 unfold dY at hr
 have T:=an y1 <| @e_i.eq_1
 apply Spec.fn Tryz.func19 rfl
 focus (simp[Tryz.f19]<;>exact rfl)
 focus
  refine wc_ T (g:=?_)
  cases hr
  refine⟨.inr rfl,_,(ry T),?_⟩
  exact wr [] rfl .nil
 rfl
end Go.Rex
namespace Go.Rex
open Go.Proofs
open Go Go.Rex Go.RowKit
set_option maxRecDepth 100000
set_option maxHeartbeats 1000000
def y2:=an @ag28 <| an @cs30 <| an @nY <| an @ok30 <| an @so22 <| @dJ
theorem lA{v1:(List (Int×(List Int)×Int))}{v2:Bool}(hr:eJ v1=some (v2)):Spec (lim Tryz.prog) 5 [.list 3 (v1.map e_iLi_i)] ⟨[.v (.bool v2)],[]⟩:=by
 unfold eJ at hr
 have T:=an y2 <| an @e_i.eq_1 <| @e_iLi_i.eq_1
 apply Spec.fn Tryz.func5 rfl
 focus (simp[Tryz.f5]<;>exact rfl)
 focus
  refine wc_ T (g:=?_)
  rcases ifs hr with⟨h1,hr⟩|⟨h1,hr⟩
  ·have T:=an h1 T
   refine wc_ T (g:=?_)
   rcases ifs hr with⟨h2,hr⟩|⟨h2,hr⟩
   ·have T:=an h2 T
    refine wa_ T (g:=?_)
    cases hr
    refine⟨.inr rfl,_,(ry T),?_⟩
    exact wk_ T [] rfl .nil
   ·have T:=an h2 T
    refine wc_ T (g:=?_)
    rcases ifs hr with⟨h3,hr⟩|⟨h3,hr⟩
    ·have T:=an h3 T
     refine wa_ T (g:=?_)
     cases hr
     refine⟨.inr rfl,_,(ry T),?_⟩
     exact wk_ T [] rfl .nil
    ·have T:=an h3 T
     refine wa_ T (g:=?_)
     obtain⟨v12,h12,hr⟩:=bs hr
     refine TX.loopE (step:=aS v1) (x:=0) h12 (fun v3=>⟨.list 3 (v1.map e_iLi_i)::.Z::.Z::.v (.int .i64 v3)::.Z::.Z::.Z::.Z::.Z::.Z::.Z::.Z::.Z::.Z::.Z::.Z::.Z::.Z::.Z::.Z::.Z::.Z::.Z::.Z::.Z::.Z::.Z::.Z::.Z::.Z::[],[]⟩) (fun e=>match e with|(.inl _)=>(.ret,⟨.Z::.Z::.v (.bool false)::.Z::.Z::.Z::.Z::.Z::.Z::.Z::.Z::.Z::.Z::.Z::.Z::.Z::.Z::.Z::.Z::.Z::.Z::.Z::.Z::.Z::.Z::.Z::.Z::.Z::.Z::.Z::[],[]⟩)|(.inr _)=>(.exit 0,⟨.Z::.Z::.Z::.Z::.Z::.Z::.Z::.Z::.Z::.Z::.Z::.Z::.Z::.Z::.Z::.Z::.Z::.Z::.Z::.Z::.Z::.Z::.Z::.Z::.Z::.Z::.Z::.Z::.Z::.Z::[],[]⟩)) ?_ ?_ ?_ ?_
     ·rintro v3 v0 hr
      dsimp only[aS] at hr
      try dsimp only
      refine wc_ T (g:=?_)
      rcases ifs hr with⟨h8,hr⟩|⟨h8,hr⟩
      ·have T:=an h8 T
       refine wa_ T (g:=?_)
       obtain⟨⟨v8,v9,v10⟩,h9,hr⟩:=bs hr
       try dsimp only at hr
       have T:=an (gx e_iLi_i h9) T
       refine wA T (g:=?_)
       obtain⟨v11,h10,hr⟩:=bs hr
       apply TO.cal (wn T) rfl zA (gJ h10) rfl rfl rfl
       repeat exact sd T
       refine wa_ T (g:=?_)
       apply TO.pop1 (wn T) (cN rfl)
       repeat exact sd T
       refine wa_ T (g:=?_)
       rcases ifs hr with⟨h11,hr⟩|⟨h11,hr⟩
       ·have T:=an h11 T
        refine wa_ T (g:=?_)
        cases hr
        refine⟨rfl,?_⟩
        exact wk_ T [] rfl .nil
       ·have T:=an h11 T
        refine wa_ T (g:=?_)
        cases hr
        refine⟨rfl,?_⟩
        exact wk_ T [] rfl .nil
      ·have T:=an h8 T
       refine wa_ T (g:=?_)
       cases hr
       refine⟨rfl,?_⟩
       exact wk_ T [] rfl .nil
     ·intro e h;rcases e with _|e<;>cases h
     ·try dsimp only
      rcases v12 with _|_
      ·try dsimp only at hr
       try dsimp only
       refine wa_ T (g:=?_)
       cases hr
       refine⟨.inr rfl,_,(ry T),?_⟩
       exact wk_ T [] rfl .nil
      ·try dsimp only at hr
       try dsimp only
       refine wa_ T (g:=?_)
       cases hr
       refine⟨.inr rfl,_,(ry T),?_⟩
       exact wk_ T [] rfl .nil
     ·try dsimp only
      exact wk_ T [] rfl .nil
  ·have T:=an h1 T
   refine wc_ T (g:=?_)
   rcases ifs hr with⟨h13,hr⟩|⟨h13,hr⟩
   ·have T:=an h13 T
    refine wa_ T (g:=?_)
    cases hr
    refine⟨.inr rfl,_,(ry T),?_⟩
    exact wk_ T [] rfl .nil
   ·have T:=an h13 T
    refine wa_ T (g:=?_)
    obtain⟨v22,h22,hr⟩:=bs hr
    refine TX.loopE (step:=aR v1) (x:=0) h22 (fun v13=>⟨.list 3 (v1.map e_iLi_i)::.Z::.Z::.v (.int .i64 v13)::.Z::.Z::.Z::.Z::.Z::.Z::.Z::.Z::.Z::.Z::.Z::.Z::.Z::.Z::.Z::.Z::.Z::.Z::.Z::.Z::.Z::.Z::.Z::.Z::.Z::.Z::[],[]⟩) (fun e=>match e with|(.inl _)=>(.ret,⟨.Z::.Z::.v (.bool false)::.Z::.Z::.Z::.Z::.Z::.Z::.Z::.Z::.Z::.Z::.Z::.Z::.Z::.Z::.Z::.Z::.Z::.Z::.Z::.Z::.Z::.Z::.Z::.Z::.Z::.Z::.Z::[],[]⟩)|(.inr _)=>(.exit 0,⟨.Z::.Z::.Z::.Z::.Z::.Z::.Z::.Z::.Z::.Z::.Z::.Z::.Z::.Z::.Z::.Z::.Z::.Z::.Z::.Z::.Z::.Z::.Z::.Z::.Z::.Z::.Z::.Z::.Z::.Z::[],[]⟩)) ?_ ?_ ?_ ?_
    ·rintro v13 v0 hr
     dsimp only[aR] at hr
     try dsimp only
     refine wc_ T (g:=?_)
     rcases ifs hr with⟨h18,hr⟩|⟨h18,hr⟩
     ·have T:=an h18 T
      refine wa_ T (g:=?_)
      obtain⟨⟨v18,v19,v20⟩,h19,hr⟩:=bs hr
      try dsimp only at hr
      have T:=an (gx e_iLi_i h19) T
      refine wA T (g:=?_)
      obtain⟨v21,h20,hr⟩:=bs hr
      apply TO.cal (wn T) rfl zA (gJ h20) rfl rfl rfl
      repeat exact sd T
      refine wa_ T (g:=?_)
      apply TO.pop1 (wn T) (cN rfl)
      repeat exact sd T
      refine wa_ T (g:=?_)
      rcases ifs hr with⟨h21,hr⟩|⟨h21,hr⟩
      ·have T:=an h21 T
       refine wa_ T (g:=?_)
       cases hr
       refine⟨rfl,?_⟩
       exact wk_ T [] rfl .nil
      ·have T:=an h21 T
       refine wa_ T (g:=?_)
       cases hr
       refine⟨rfl,?_⟩
       exact wk_ T [] rfl .nil
     ·have T:=an h18 T
      refine wa_ T (g:=?_)
      cases hr
      refine⟨rfl,?_⟩
      exact wk_ T [] rfl .nil
    ·intro e h;rcases e with _|e<;>cases h
    ·try dsimp only
     rcases v22 with _|_
     ·try dsimp only at hr
      try dsimp only
      refine wa_ T (g:=?_)
      cases hr
      refine⟨.inr rfl,_,(ry T),?_⟩
      exact wk_ T [] rfl .nil
     ·try dsimp only at hr
      try dsimp only
      refine wa_ T (g:=?_)
      cases hr
      refine⟨.inr rfl,_,(ry T),?_⟩
      exact wk_ T [] rfl .nil
    ·try dsimp only
     exact wk_ T [] rfl .nil
 rfl
end Go.Rex
namespace Go.Rex
open Go.Proofs
open Go Go.Rex Go.RowKit
set_option maxRecDepth 100000
set_option maxHeartbeats 200000
theorem eS{v1:Int}{v2:Int}{v3:Int}{v4:Bool}(hr:dP v1 v2 v3=some (v4)):Spec (lim Tryz.prog) 20 [.v (.int .i64 v1),.v (.int .i64 v2),.v (.int .i64 v3)] ⟨[.v (.bool v4)],[]⟩:=by
 unfold dP at hr
 have T:=trivial
 apply Spec.fn Tryz.func20 rfl
 focus (simp[Tryz.f20]<;>exact rfl)
 focus
  refine wa_ T (g:=?_)
  rcases ifs hr with⟨h1,hr⟩|⟨h1,hr⟩
  ·have T:=an h1 T
   refine wa_ T (g:=?_)
   cases hr
   refine⟨.inr rfl,_,(ry T),?_⟩
   exact wk_ T [] rfl .nil
  ·have T:=an h1 T
   refine wa_ T (g:=?_)
   cases hr
   refine⟨.inr rfl,_,(ry T),?_⟩
   exact wk_ T [] rfl .nil
 rfl
def y3:=an @ag3 <| an @cs3 <| an @ok3 <| an @so28 <| @dJ
theorem gH{v1:(List Int)}{v2:Int}(hr:cW v1=some (v2)):Spec (lim Tryz.prog) 21 [.list 1 (v1.map e_i)] ⟨[.v (.int .i64 v2)],[]⟩:=by
 unfold cW at hr
 have T:=an y3 <| @e_i.eq_1
 apply Spec.fn Tryz.func21 rfl
 focus (simp[Tryz.f21]<;>exact rfl)
 focus
  refine wc_ T (g:=?_)
  obtain⟨v3,h1,hr⟩:=bs hr
  apply TO.cal (wn T) rfl sU (eS h1) rfl rfl rfl
  repeat exact sd T
  refine wa_ T (g:=?_)
  apply TO.pop1 (wn T) (cN rfl)
  repeat exact sd T
  refine wa_ T (g:=?_)
  rcases ifs hr with⟨h2,hr⟩|⟨h2,hr⟩
  ·have T:=an h2 T
   refine wa_ T (g:=?_)
   obtain⟨v9,h11,hr⟩:=bs hr
   refine TX.loopE (step:=bV v1) (x:=0) h11 (fun v4=>⟨.list 1 (v1.map e_i)::.Z::.Z::.v (.int .i64 v4)::.Z::.Z::.Z::.Z::.Z::.Z::.Z::.Z::.Z::.Z::.Z::.Z::.Z::.Z::.Z::.Z::[],[]⟩) (fun e=>match e with|(.inl _)=>(.ret,⟨.Z::.Z::.v (.int .i64 2)::.Z::.Z::.Z::.Z::.Z::.Z::.Z::.Z::.Z::.Z::.Z::.Z::.Z::.Z::.Z::.Z::.Z::[],[]⟩)|(.inr _)=>(.exit 0,⟨.Z::.Z::.Z::.Z::.Z::.Z::.Z::.Z::.Z::.Z::.Z::.Z::.Z::.Z::.Z::.Z::.Z::.Z::.Z::.Z::[],[]⟩)) ?_ ?_ ?_ ?_
   ·rintro v4 v0 hr
    dsimp only[bV] at hr
    try dsimp only
    refine wc_ T (g:=?_)
    rcases ifs hr with⟨h7,hr⟩|⟨h7,hr⟩
    ·have T:=an h7 T
     refine wa_ T (g:=?_)
     obtain⟨v7,h8,hr⟩:=bs hr
     have T:=an (gx e_i h8) T
     refine wA T (g:=?_)
     obtain⟨v8,h9,hr⟩:=bs hr
     apply TO.cal (wn T) rfl sU (eS h9) rfl rfl rfl
     repeat exact sd T
     refine wa_ T (g:=?_)
     apply TO.pop1 (wn T) (cN rfl)
     repeat exact sd T
     refine wa_ T (g:=?_)
     rcases ifs hr with⟨h10,hr⟩|⟨h10,hr⟩
     ·have T:=an h10 T
      refine wa_ T (g:=?_)
      cases hr
      refine⟨rfl,?_⟩
      exact wk_ T [] rfl .nil
     ·have T:=an h10 T
      refine wa_ T (g:=?_)
      cases hr
      refine⟨rfl,?_⟩
      exact wk_ T [] rfl .nil
    ·have T:=an h7 T
     refine wa_ T (g:=?_)
     cases hr
     refine⟨rfl,?_⟩
     exact wk_ T [] rfl .nil
   ·intro e h;rcases e with _|e<;>cases h
   ·try dsimp only
    rcases v9 with _|_
    ·try dsimp only at hr
     try dsimp only
     refine wa_ T (g:=?_)
     cases hr
     refine⟨.inr rfl,_,(ry T),?_⟩
     exact wk_ T [] rfl .nil
    ·try dsimp only at hr
     try dsimp only
     refine wa_ T (g:=?_)
     cases hr
     refine⟨.inr rfl,_,(ry T),?_⟩
     exact wk_ T [] rfl .nil
   ·try dsimp only
    exact wk_ T [] rfl .nil
  ·have T:=an h2 T
   refine wa_ T (g:=?_)
   cases hr
   refine⟨.inr rfl,_,(ry T),?_⟩
   exact wk_ T [] rfl .nil
 rfl
theorem gT{v1:Int}{v2:Bool}(hr:eW v1=some (v2)):Spec (lim Tryz.prog) 22 [.v (.int .i64 v1)] ⟨[.v (.bool v2)],[]⟩:=by
 unfold eW at hr
 have T:=trivial
 apply Spec.fn Tryz.func22 rfl
 focus (simp[Tryz.f22]<;>exact rfl)
 focus
  refine wa_ T (g:=?_)
  obtain⟨v3,h1,hr⟩:=bs hr
  apply TO.cal (wn T) rfl sU (eS h1) rfl rfl rfl
  repeat exact sd T
  refine wa_ T (g:=?_)
  cases hr
  refine⟨.inr rfl,_,(ry T),?_⟩
  exact wr [] rfl .nil
 rfl
end Go.Rex
namespace Go.Rex
open Go.Proofs
open Go Go.Rex Go.RowKit
set_option maxRecDepth 100000
set_option maxHeartbeats 1000000
def y4:=an @ag28 <| an @ag3 <| an @cs30 <| an @nV <| an @nY <| an @nL <| an @ok30 <| an @so22 <| an @so28 <| @dJ
theorem jT{v1:(List (Int×(List Int)×Int))}{v2:Int}{v3:Int}(hr:dK v1=some (v2,v3)):Spec (lim Tryz.prog) 6 [.list 3 (v1.map e_iLi_i)] ⟨[.tuple [.v (.int .i64 v2),.v (.int .i64 v3)]],[]⟩:=by
 unfold dK at hr
 have T:=an y4 <| @e_iLi_i.eq_1
 apply Spec.fn Tryz.func6 rfl
 focus (simp[Tryz.f6]<;>exact rfl)
 focus
  refine wc_ T (g:=?_)
  rcases ifs hr with⟨h1,hr⟩|⟨h1,hr⟩
  ·have T:=an h1 T
   refine wa_ T (g:=?_)
   cases hr
   refine⟨.inr rfl,_,(ry T),?_⟩
   exact wk_ T [] rfl .nil
  ·have T:=an h1 T
   refine wa_ T (g:=?_)
   obtain⟨v41,h40,hr⟩:=bs hr
   refine TX.loopE (step:=bN v1) (x:=0) h40 (fun v4=>⟨.list 3 (v1.map e_iLi_i)::.Z::.Z::.Z::.v (.int .i64 v4)::.Z::.Z::.Z::.Z::.Z::.Z::.Z::.Z::.Z::.Z::.Z::.Z::.Z::.Z::.Z::.Z::.Z::.Z::.Z::.Z::.Z::.Z::.Z::.Z::.Z::.Z::.Z::.Z::.Z::.Z::.Z::.Z::.Z::.Z::.Z::.Z::.Z::.Z::.Z::.Z::.Z::.Z::.Z::.Z::.Z::.Z::.Z::.Z::.Z::.Z::.Z::.Z::.Z::.Z::.Z::.Z::.Z::.Z::.Z::.Z::.Z::.Z::.Z::.Z::.Z::.Z::[],[]⟩) (fun e=>match e with|(.inl (v22,v23))=>(.ret,⟨.Z::.Z::.v (.int .i64 v22)::.v (.int .i64 v23)::.Z::.Z::.Z::.Z::.Z::.Z::.Z::.Z::.Z::.Z::.Z::.Z::.Z::.Z::.Z::.Z::.Z::.Z::.Z::.Z::.Z::.Z::.Z::.Z::.Z::.Z::.Z::.Z::.Z::.Z::.Z::.Z::.Z::.Z::.Z::.Z::.Z::.Z::.Z::.Z::.Z::.Z::.Z::.Z::.Z::.Z::.Z::.Z::.Z::.Z::.Z::.Z::.Z::.Z::.Z::.Z::.Z::.Z::.Z::.Z::.Z::.Z::.Z::.Z::.Z::.Z::.Z::[],[]⟩)|(.inr _)=>(.exit 0,⟨.Z::.Z::.Z::.Z::.Z::.Z::.Z::.Z::.Z::.Z::.Z::.Z::.Z::.Z::.Z::.Z::.Z::.Z::.Z::.Z::.Z::.Z::.Z::.Z::.Z::.Z::.Z::.Z::.Z::.Z::.Z::.Z::.Z::.Z::.Z::.Z::.Z::.Z::.Z::.Z::.Z::.Z::.Z::.Z::.Z::.Z::.Z::.Z::.Z::.Z::.Z::.Z::.Z::.Z::.Z::.Z::.Z::.Z::.Z::.Z::.Z::.Z::.Z::.Z::.Z::.Z::.Z::.Z::.Z::.Z::.Z::[],[]⟩)) ?_ ?_ ?_ ?_
   ·rintro v4 v0 hr
    dsimp only[bN] at hr
    try dsimp only
    refine wc_ T (g:=?_)
    rcases ifs hr with⟨h21,hr⟩|⟨h21,hr⟩
    ·have T:=an h21 T
     refine wa_ T (g:=?_)
     obtain⟨⟨v24,v25,v26⟩,h22,hr⟩:=bs hr
     try dsimp only at hr
     have T:=an (gx e_iLi_i h22) T
     refine wA T (g:=?_)
     obtain⟨v27,h23,hr⟩:=bs hr
     apply TO.cal (wn T) rfl sU (eS h23) rfl rfl rfl
     repeat exact sd T
     refine wa_ T (g:=?_)
     apply TO.pop1 (wn T) (cN rfl)
     repeat exact sd T
     refine wa_ T (g:=?_)
     rcases ifs hr with⟨h24,hr⟩|⟨h24,hr⟩
     ·have T:=an h24 T
      refine wa_ T (g:=?_)
      rcases ifs hr with⟨h25,hr⟩|⟨h25,hr⟩
      ·have T:=an h25 T
       refine wA T (g:=?_)
       obtain⟨⟨v28,v29,v30⟩,h26,hr⟩:=bs hr
       try dsimp only at hr
       have T:=an (gx e_iLi_i h26) T
       refine wA T (g:=?_)
       rcases ifs hr with⟨h27,hr⟩|⟨h27,hr⟩
       ·have T:=an h27 T
        refine wa_ T (g:=?_)
        cases hr
        refine⟨rfl,?_⟩
        exact wk_ T [] rfl .nil
       ·have T:=an h27 T
        refine wA T (g:=?_)
        obtain⟨v31,h28,hr⟩:=bs hr
        apply TO.cal (wn T) rfl zF (gH h28) rfl rfl rfl
        repeat exact sd T
        refine wa_ T (g:=?_)
        rcases ifs hr with⟨h29,hr⟩|⟨h29,hr⟩
        ·have T:=an h29 T
         refine wa_ T (g:=?_)
         cases hr
         refine⟨rfl,?_⟩
         exact wk_ T [] rfl .nil
        ·have T:=an h29 T
         refine wC T (g:=?_)
         obtain⟨⟨v32,v33,v34⟩,h30,hr⟩:=bs hr
         try dsimp only at hr
         have T:=an (gx e_iLi_i h30) T
         refine wC T (g:=?_)
         rcases ifs hr with⟨h31,hr⟩|⟨h31,hr⟩
         ·have T:=an h31 T
          refine wa_ T (g:=?_)
          cases hr
          refine⟨rfl,?_⟩
          exact wk_ T [] rfl .nil
         ·have T:=an h31 T
          refine wA T (g:=?_)
          obtain⟨v35,h32,hr⟩:=bs hr
          apply TO.cal (wn T) rfl zL (gT h32) rfl rfl rfl
          repeat exact sd T
          refine wa_ T (g:=?_)
          apply TO.pop1 (wn T) (cN rfl)
          repeat exact sd T
          refine wa_ T (g:=?_)
          rcases ifs hr with⟨h33,hr⟩|⟨h33,hr⟩
          ·have T:=an h33 T
           refine wa_ T (g:=?_)
           cases hr
           refine⟨rfl,?_⟩
           exact wk_ T [] rfl .nil
          ·have T:=an h33 T
           refine wa_ T (g:=?_)
           cases hr
           refine⟨rfl,?_⟩
           exact wk_ T [] rfl .nil
      ·have T:=an h25 T
       refine wA T (g:=?_)
       obtain⟨v36,h34,hr⟩:=bs hr
       apply TO.cal (wn T) rfl zF (gH h34) rfl rfl rfl
       repeat exact sd T
       refine wa_ T (g:=?_)
       rcases ifs hr with⟨h35,hr⟩|⟨h35,hr⟩
       ·have T:=an h35 T
        refine wa_ T (g:=?_)
        cases hr
        refine⟨rfl,?_⟩
        exact wk_ T [] rfl .nil
       ·have T:=an h35 T
        refine wC T (g:=?_)
        obtain⟨⟨v37,v38,v39⟩,h36,hr⟩:=bs hr
        try dsimp only at hr
        have T:=an (gx e_iLi_i h36) T
        refine wC T (g:=?_)
        rcases ifs hr with⟨h37,hr⟩|⟨h37,hr⟩
        ·have T:=an h37 T
         refine wa_ T (g:=?_)
         cases hr
         refine⟨rfl,?_⟩
         exact wk_ T [] rfl .nil
        ·have T:=an h37 T
         refine wA T (g:=?_)
         obtain⟨v40,h38,hr⟩:=bs hr
         apply TO.cal (wn T) rfl zL (gT h38) rfl rfl rfl
         repeat exact sd T
         refine wa_ T (g:=?_)
         apply TO.pop1 (wn T) (cN rfl)
         repeat exact sd T
         refine wa_ T (g:=?_)
         rcases ifs hr with⟨h39,hr⟩|⟨h39,hr⟩
         ·have T:=an h39 T
          refine wa_ T (g:=?_)
          cases hr
          refine⟨rfl,?_⟩
          exact wk_ T [] rfl .nil
         ·have T:=an h39 T
          refine wa_ T (g:=?_)
          cases hr
          refine⟨rfl,?_⟩
          exact wk_ T [] rfl .nil
     ·have T:=an h24 T
      refine wa_ T (g:=?_)
      cases hr
      refine⟨rfl,?_⟩
      exact wk_ T [] rfl .nil
    ·have T:=an h21 T
     refine wa_ T (g:=?_)
     cases hr
     refine⟨rfl,?_⟩
     exact wk_ T [] rfl .nil
   ·intro e h;rcases e with _|e<;>cases h
   ·try dsimp only
    rcases v41 with⟨v42,v43⟩|_
    ·try dsimp only at hr
     try dsimp only
     refine wa_ T (g:=?_)
     cases hr
     refine⟨.inr rfl,_,(ry T),?_⟩
     exact wk_ T [] rfl .nil
    ·try dsimp only at hr
     try dsimp only
     refine wa_ T (g:=?_)
     cases hr
     refine⟨.inr rfl,_,(ry T),?_⟩
     exact wk_ T [] rfl .nil
   ·try dsimp only
    exact wk_ T [] rfl .nil
 rfl
end Go.Rex
namespace Go.Rex
open Go.Proofs
open Go Go.Rex Go.RowKit
set_option maxRecDepth 100000
set_option maxHeartbeats 200000
def y5:=an @by3 <| an @cs3 <| an @ni28 <| an @so28 <| @zc3
theorem lN{v1:(List Int)}{v2:(List Int)}(hr:fZ v1=some (v2)):Spec (lim Tryz.prog) 27 [.list 1 (v1.map e_i)] ⟨[.lsl 0 0 v2.length],[.rows 1 (v2.map e_i)]⟩:=by
 unfold fZ at hr
 have T:=an y5 <| @e_i.eq_1
 apply Spec.fn Tryz.func27 rfl
 focus (simp[Tryz.f27]<;>exact rfl)
 focus
  refine wa_ T (g:=?_)
  apply TO.bl e_i ([]:List Int) (wn T) rfl (by simp only[zz,y5,e_i,Nat.reduceAdd,Nat.reduceMul,Nat.reduceLeDiff,Nat.reduceEqDiff,tslice,tparts];exact rfl) rfl rfl
  repeat exact sd T
  refine wa_ T (g:=?_)
  obtain⟨v3,h1,hr⟩:=bs hr
  apply TO.ap (f:=e_i) (xs:=([]:List Int)) (ys:=v1) (wn T) rfl rfl (by first|rfl|simp only[List.length_set]) rfl rfl so28 ni28 zc3 rfl (by rw[by3];exact h1) (fun _=>⟨rfl,rfl,rfl⟩)
  repeat exact sd T
  refine wa_ T (g:=?_)
  cases hr
  refine⟨.inr rfl,_,(ry T),?_⟩
  exact wr [some 0] rfl (.rows .nil rfl rfl)
 rfl
def y6:=an @ag28 <| an @ag3 <| an @by30 <| an @cs30 <| an @nV <| an @nY <| an @nL <| an @ni22 <| an @ok30 <| an @so22 <| an @st30 <| an @zc30 <| @dJ
theorem aK{v1:(List (Int×(List Int)×Int))}{v2:(List (Int×(List Int)×Int))}(hr:aF v1=some (v2)):Spec (lim Tryz.prog) 8 [.list 3 (v1.map e_iLi_i)] ⟨[.lsl 0 0 v2.length],[.rows 3 (v2.map e_iLi_i)]⟩:=by
 unfold aF at hr
 have T:=an y6 <| @e_iLi_i.eq_1
 apply Spec.fn Tryz.func8 rfl
 focus (simp[Tryz.f8]<;>exact rfl)
 focus
  refine wa_ T (g:=?_)
  apply TX.vt (α:=(Int×(List Int)×Int)) e_iLi_i 3 3 rfl
  repeat exact sd T
  with_reducible apply TX.here
  refine wa_ T (g:=?_)
  obtain⟨v16,h9,hr⟩:=bs hr
  refine TX.loopE (step:=bW v1) (x:=(([]:List (Int×(List Int)×Int)),0)) h9 (fun (v3,v4)=>⟨.list 3 (v1.map e_iLi_i)::.Z::.Z::.lsl 0 0 v3.length::.v (.int .i64 v4)::.Z::.Z::.Z::.Z::.Z::.Z::.Z::.Z::.Z::.Z::.Z::.Z::.Z::.Z::.Z::.Z::.Z::.Z::.Z::.Z::.Z::.Z::.Z::.Z::.Z::.Z::.Z::[],[.rows 3 (v3.map e_iLi_i)]⟩) (fun v10=>(.exit 0,⟨.Z::.Z::.Z::.lsl 0 0 v10.length::.Z::.Z::.Z::.Z::.Z::.Z::.Z::.Z::.Z::.Z::.Z::.Z::.Z::.Z::.Z::.Z::.Z::.Z::.Z::.Z::.Z::.Z::.Z::.Z::.Z::.Z::.Z::.Z::[],[.rows 3 (v10.map e_iLi_i)]⟩)) ?_ ?_ ?_ ?_
  ·rintro⟨v3,v4⟩ v0 hr
   dsimp only[bW] at hr
   try dsimp only
   refine wc_ T (g:=?_)
   rcases ifs hr with⟨h5,hr⟩|⟨h5,hr⟩
   ·have T:=an h5 T
    refine wa_ T (g:=?_)
    obtain⟨⟨v11,v12,v13⟩,h6,hr⟩:=bs hr
    try dsimp only at hr
    have h6m:=pV (f:=e_iLi_i) h6
    have h6l:=pD h6
    try simp only[List.length_set] at h6l
    have h6a:=pE h6
    have T:=an h6m T
    have T:=an h6l T
    have T:=an h6a T
    refine wA T (g:=?_)
    obtain⟨v14,h7,hr⟩:=bs hr
    apply TD.cal (wn T) rfl De (lN h7) rfl rfl rfl
    repeat exact sd T
    refine wA T (g:=?_)
    apply TD.frz 1 rfl rfl
    repeat exact sd T
    refine wa_ T (g:=?_)
    apply TD.bm e_iLi_i ([(v11,v14,v13)]:List (Int×(List Int)×Int)) (wn T) rfl (by simp only[zz,y6,e_iLi_i,Nat.reduceAdd,Nat.reduceMul,Nat.reduceLeDiff,Nat.reduceEqDiff,tslice,tparts,h5,h6m,h6l,h6a];exact rfl) rfl
    repeat exact sd T
    refine wa_ T (g:=?_)
    obtain⟨v15,h8,hr⟩:=bs hr
    apply TD.ap (f:=e_iLi_i) (xs:=v3) (ys:=([(v11,v14,v13)]:List (Int×(List Int)×Int))) (wn T) rfl rfl (by first|rfl|simp only[List.length_set]) rfl rfl so22 ni22 zc30 rfl (by rw[by30];exact h8) (fun _=>⟨rfl,rfl,rfl⟩) rfl
    repeat exact sd T
    refine wa_ T (g:=?_)
    cases hr
    refine⟨rfl,?_⟩
    exact wk_ T [some 0] rfl (.rows .nil rfl rfl)
   ·have T:=an h5 T
    refine wa_ T (g:=?_)
    cases hr
    refine⟨rfl,?_⟩
    exact wk_ T [some 0] rfl (.rows .nil rfl rfl)
  ·intro e h;cases h
  ·try dsimp only
   refine wa_ T (g:=?_)
   cases hr
   refine⟨.inr rfl,_,(ry T),?_⟩
   exact wr [some 0] rfl (.rows .nil rfl rfl)
  ·try dsimp only
   exact wr [some 0] rfl (.rows .nil rfl rfl)
 rfl
theorem gY{v1:Int}{v2:Int}{v3:Int}{v4:Bool}(hr:dZ v1 v2 v3=some (v4)):Spec (lim Tryz.prog) 49 [.v (.int .i64 v1),.v (.int .i64 v2),.v (.int .i64 v3)] ⟨[.v (.bool v4)],[]⟩:=by
 unfold dZ at hr
 have T:=trivial
 apply Spec.fn Tryz.func49 rfl
 focus (simp[Tryz.f49]<;>exact rfl)
 focus
  refine wa_ T (g:=?_)
  rcases ifs hr with⟨h1,hr⟩|⟨h1,hr⟩
  ·have T:=an h1 T
   refine wa_ T (g:=?_)
   cases hr
   refine⟨.inr rfl,_,(ry T),?_⟩
   exact wk_ T [] rfl .nil
  ·have T:=an h1 T
   refine wa_ T (g:=?_)
   cases hr
   refine⟨.inr rfl,_,(ry T),?_⟩
   exact wk_ T [] rfl .nil
 rfl
theorem bU{v1:Bool}{v2:Int}{v3:Bool}{v4:Int}(hr:bE v1 v2=some (v3,v4)):Spec (lim Tryz.prog) 26 [.v (.bool v1),.v (.int .i64 v2)] ⟨[.func 48 [] [.fptr true [.v (.bool v3)] 0,.fptr true [.v (.int .i64 v4)] 0]],[]⟩:=by
 unfold bE at hr
 have T:=trivial
 apply Spec.fn Tryz.func26 rfl
 focus (simp[Tryz.f26]<;>exact rfl)
 focus
  refine wb_ T (g:=?_)
  cases hr
  refine⟨.inr rfl,_,(ry T),?_⟩
  exact wr [] rfl .nil
 rfl
theorem eM{v1:Int}{v2:Int}{v3:Int}{v4:Bool}{v5:Int}(hr:dQ v1 v2 v3=some (v4,v5)):Spec (lim Tryz.prog) 28 [.v (.int .i64 v1),.v (.int .i64 v2),.v (.int .i64 v3)] ⟨[.func 48 [] [.fptr true [.v (.bool v4)] 0,.fptr true [.v (.int .i64 v5)] 0]],[]⟩:=by
 unfold dQ at hr
 have T:=trivial
 apply Spec.fn Tryz.func28 rfl
 focus (simp[Tryz.f28]<;>exact rfl)
 focus
  refine wa_ T (g:=?_)
  obtain⟨v6,h1,hr⟩:=bs hr
  apply TO.cal (wn T) rfl zJ (gY h1) rfl rfl rfl
  repeat exact sd T
  refine wa_ T (g:=?_)
  apply TO.pop1 (wn T) (cN rfl)
  repeat exact sd T
  refine wa_ T (g:=?_)
  obtain⟨⟨v7,v8⟩,h2,hr⟩:=bs hr
  try dsimp only at hr
  apply TO.cal (wn T) rfl lV (bU h2) rfl rfl rfl
  repeat exact sd T
  refine wa_ T (g:=?_)
  cases hr
  refine⟨.inr rfl,_,(ry T),?_⟩
  exact wr [] rfl .nil
 rfl
theorem nH{v1:Int}{v2:Bool}{v3:Int}(hr:iF v1=some (v2,v3)):Spec (lim Tryz.prog) 47 [.v (.int .i64 v1)] ⟨[.func 48 [] [.fptr true [.v (.bool v2)] 0,.fptr true [.v (.int .i64 v3)] 0]],[]⟩:=by
 unfold iF at hr
 have T:=trivial
 apply Spec.fn Tryz.func47 rfl
 focus (simp[Tryz.f47]<;>exact rfl)
 focus
  refine wa_ T (g:=?_)
  obtain⟨⟨v4,v5⟩,h1,hr⟩:=bs hr
  try dsimp only at hr
  apply TO.cal (wn T) rfl uA (eM h1) rfl rfl rfl
  repeat exact sd T
  refine wa_ T (g:=?_)
  cases hr
  refine⟨.inr rfl,_,(ry T),?_⟩
  exact wr [] rfl .nil
 rfl
theorem iD{v1:(List Int)}{v2:(List Int)}(hr:fP v1=some (v2)):Spec (lim Tryz.prog) 30 [.list 1 (v1.map e_i)] ⟨[.func 50 [] [.fptr true [.list 1 (v2.map e_i)] 0]],[]⟩:=by
 unfold fP at hr
 have T:=@e_i.eq_1
 apply Spec.fn Tryz.func30 rfl
 focus (simp[Tryz.f30]<;>exact rfl)
 focus
  refine wb_ T (g:=?_)
  cases hr
  refine⟨.inr rfl,_,(ry T),?_⟩
  exact wr [] rfl .nil
 rfl
theorem iC{v1:Int}{v2:Bool}{v3:Int}(hr:fM v1=some (v2,v3)):Spec (lim Tryz.prog) 31 [.v (.int .i64 v1)] ⟨[.func 48 [] [.fptr true [.v (.bool v2)] 0,.fptr true [.v (.int .i64 v3)] 0]],[]⟩:=by
 unfold fM at hr
 have T:=trivial
 apply Spec.fn Tryz.func31 rfl
 focus (simp[Tryz.f31]<;>exact rfl)
 focus
  refine wa_ T (g:=?_)
  obtain⟨⟨v4,v5⟩,h1,hr⟩:=bs hr
  try dsimp only at hr
  apply TO.cal (wn T) rfl uA (eM h1) rfl rfl rfl
  repeat exact sd T
  refine wa_ T (g:=?_)
  cases hr
  refine⟨.inr rfl,_,(ry T),?_⟩
  exact wr [] rfl .nil
 rfl
def y7:=an @ag31 <| @ag4
theorem aN{v1:Bool}{v2:Int}{v3:Int}(hr:aG v1 v2=some (v3)):Spec (lim Tryz.prog) 48 [.fptr true [.v (.bool v1)] 0,.fptr true [.v (.int .i64 v2)] 0] ⟨[.v (.int .i64 v3)],[]⟩:=by
 unfold aG at hr
 have T:=y7
 apply Spec.fn Tryz.func48 rfl
 focus (simp[Tryz.f48]<;>exact rfl)
 focus
  refine wA T (g:=?_)
  rcases ifs hr with⟨h1,hr⟩|⟨h1,hr⟩
  ·have T:=an h1 T
   refine wA T (g:=?_)
   cases hr
   refine⟨.inr rfl,_,(ry T),?_⟩
   exact wk_ T [] rfl .nil
  ·have T:=an h1 T
   refine wa_ T (g:=?_)
   cases hr
   refine⟨.inr rfl,_,(ry T),?_⟩
   exact wk_ T [] rfl .nil
 rfl
def y8:=an @ag28 <| an @ag3 <| an @cs3 <| an @ok3 <| @so28
theorem gQ{v1:Int}{v2:(List Int)}{v3:Int}(hr:cK v1 v2=some (v3)):Spec (lim Tryz.prog) 51 [.v (.int .i64 v1),.fptr true [.list 1 (v2.map e_i)] 0] ⟨[.v (.int .i64 v3)],[]⟩:=by
 unfold cK at hr
 have T:=an y8 <| @e_i.eq_1
 apply Spec.fn Tryz.func51 rfl
 focus (simp[Tryz.f51]<;>exact rfl)
 focus
  refine wA T (g:=?_)
  obtain⟨v4,h1,hr⟩:=bs hr
  have T:=an (gx e_i h1) T
  refine wA T (g:=?_)
  obtain⟨⟨v5,v6⟩,h2,hr⟩:=bs hr
  try dsimp only at hr
  apply TO.cal (wn T) rfl uA (eM h2) rfl rfl rfl
  repeat exact sd T
  refine wa_ T (g:=?_)
  obtain⟨v7,h3,hr⟩:=bs hr
  apply TO.cal (wn T) rfl lS (aN h3) rfl rfl rfl
  repeat exact sd T
  refine wa_ T (g:=?_)
  cases hr
  refine⟨.inr rfl,_,(ry T),?_⟩
  exact wr [] rfl .nil
 rfl
def y9:=@dJ
theorem iB{v1:Int}{v2:(List Int)}{v3:Int}{v4:Int}(hr:cG v1 v2=some (v3,v4)):Spec (lim Tryz.prog) 45 [.v (.int .i64 v1),.func 51 [] [.fptr true [.list 1 (v2.map e_i)] 0]] ⟨[.tuple [.v (.int .i64 v3),.v (.int .i64 v4)]],[]⟩:=by
 unfold cG at hr
 have T:=an y9 <| @e_i.eq_1
 apply Spec.fn Tryz.func45 rfl
 focus (simp[Tryz.f45]<;>exact rfl)
 focus
  refine wa_ T (g:=?_)
  obtain⟨v10,h7,hr⟩:=bs hr
  refine TX.loopE (step:=aY v1 v2) (x:=0) h7 (fun v5=>⟨.Z::.func 51 [] [.fptr true [.list 1 (v2.map e_i)] 0]::.Z::.Z::.Z::.Z::.Z::.Z::.v (.int .i64 v1)::.v (.int .i64 v5)::.Z::.Z::.Z::.Z::.Z::.Z::.Z::.Z::.Z::.Z::[],[]⟩) (fun e=>match e with|(.inl (v7,v8))=>(.ret,⟨.Z::.Z::.Z::.Z::.v (.int .i64 v7)::.v (.int .i64 v8)::.Z::.Z::.Z::.Z::.Z::.Z::.Z::.Z::.Z::.Z::.Z::.Z::.Z::.Z::[],[]⟩)|(.inr _)=>(.exit 0,⟨.Z::.Z::.Z::.Z::.Z::.Z::.Z::.Z::.Z::.Z::.Z::.Z::.Z::.Z::.Z::.Z::.Z::.Z::.Z::.Z::[],[]⟩)) ?_ ?_ ?_ ?_
  ·rintro v5 v0 hr
   dsimp only[aY] at hr
   try dsimp only
   refine wa_ T (g:=?_)
   rcases ifs hr with⟨h4,hr⟩|⟨h4,hr⟩
   ·have T:=an h4 T
    refine wa_ T (g:=?_)
    obtain⟨v9,h5,hr⟩:=bs hr
    apply TO.cal (wn T) rfl Dd (gQ h5) rfl rfl rfl
    repeat exact sd T
    refine wa_ T (g:=?_)
    rcases ifs hr with⟨h6,hr⟩|⟨h6,hr⟩
    ·have T:=an h6 T
     refine wa_ T (g:=?_)
     cases hr
     refine⟨rfl,?_⟩
     exact wk_ T [] rfl .nil
    ·have T:=an h6 T
     refine wa_ T (g:=?_)
     cases hr
     refine⟨rfl,?_⟩
     exact wk_ T [] rfl .nil
   ·have T:=an h4 T
    refine wa_ T (g:=?_)
    cases hr
    refine⟨rfl,?_⟩
    exact wk_ T [] rfl .nil
  ·intro e h;rcases e with _|e<;>cases h
  ·try dsimp only
   rcases v10 with⟨v11,v12⟩|_
   ·try dsimp only at hr
    try dsimp only
    refine wa_ T (g:=?_)
    cases hr
    refine⟨.inr rfl,_,(ry T),?_⟩
    exact wr [] rfl .nil
   ·try dsimp only at hr
    try dsimp only
    refine wa_ T (g:=?_)
    cases hr
    refine⟨.inr rfl,_,(ry T),?_⟩
    exact wr [] rfl .nil
  ·try dsimp only
   exact wr [] rfl .nil
 rfl
theorem eG{v1:Int}{v2:Int}{v3:Int}(hr:bB v1 v2=some (v3)):Spec (lim Tryz.prog) 24 [.v (.int .i64 v1),.v (.int .i64 v2)] ⟨[.func 44 [] [.fptr true [.v (.int .i64 v3)] 0]],[]⟩:=by
 unfold bB at hr
 have T:=trivial
 apply Spec.fn Tryz.func24 rfl
 focus (simp[Tryz.f24]<;>exact rfl)
 focus
  refine wb_ T (g:=?_)
  cases hr
  refine⟨.inr rfl,_,(ry T),?_⟩
  exact wr [] rfl .nil
 rfl
def y10:=@ag31
theorem dX{v1:Int}{v2:Int}(hr:aX v1=some (v2)):Spec (lim Tryz.prog) 44 [.fptr true [.v (.int .i64 v1)] 0] ⟨[.v (.int .i64 v2)],[]⟩:=by
 unfold aX at hr
 have T:=y10
 apply Spec.fn Tryz.func44 rfl
 focus (simp[Tryz.f44]<;>exact rfl)
 focus
  refine wA T (g:=?_)
  cases hr
  refine⟨.inr rfl,_,(ry T),?_⟩
  exact wr [] rfl .nil
 rfl
def y11:=an @ag69 <| an @cs69 <| an @ok69 <| an @so93 <| an @dJ <| @qR
theorem hP{v1:Bool}{v2:Int}{v3:Int}{v4:Int}(hr:dB v1 v2 v3=some (v4)):Spec (lim Tryz.prog) 23 [.list 1 [[.func 48 [] [.fptr true [.v (.bool v1)] 0,.fptr true [.v (.int .i64 v2)] 0]],[.func 44 [] [.fptr true [.v (.int .i64 v3)] 0]]]] ⟨[.v (.int .i64 v4)],[]⟩:=by
 unfold dB at hr
 have T:=y11
 apply Spec.fn Tryz.func23 rfl
 focus (simp[Tryz.f23]<;>exact rfl)
 focus
  refine wc_ T (g:=?_)
  refine TX.unroll ?_
  refine wI T (g:=?_)
  obtain⟨v5,h1,hr⟩:=bs hr
  apply TO.cal (wn T) rfl lS (aN h1) rfl rfl rfl
  repeat exact sd T
  refine wa_ T (g:=?_)
  rcases ifs hr with⟨h2,hr⟩|⟨h2,hr⟩
  ·have T:=an h2 T
   refine wa_ T (g:=?_)
   cases hr
   refine⟨.inr rfl,_,(ry T),?_⟩
   exact wk_ T [] rfl .nil
  ·have T:=an h2 T
   refine wa_ T (g:=?_)
   refine TX.unroll ?_
   refine wI T (g:=?_)
   obtain⟨v6,h3,hr⟩:=bs hr
   apply TO.cal (wn T) rfl Az (dX h3) rfl rfl rfl
   repeat exact sd T
   refine wa_ T (g:=?_)
   rcases ifs hr with⟨h4,hr⟩|⟨h4,hr⟩
   ·have T:=an h4 T
    refine wa_ T (g:=?_)
    cases hr
    refine⟨.inr rfl,_,(ry T),?_⟩
    exact wk_ T [] rfl .nil
   ·have T:=an h4 T
    refine wa_ T (g:=?_)
    refine TX.unroll ?_
    refine wa_ T (g:=?_)
    cases hr
    refine⟨.inr rfl,_,(ry T),?_⟩
    exact wk_ T [] rfl .nil
 rfl
def y12:=an @ag28 <| an @cs69 <| an @so28 <| an @so93 <| @zc69
theorem hY{v1:(List Int)}{v2:Int}(hr:cH v1=some (v2)):Spec (lim Tryz.prog) 50 [.fptr true [.list 1 (v1.map e_i)] 0] ⟨[.v (.int .i64 v2)],[]⟩:=by
 unfold cH at hr
 have T:=an y12 <| @e_i.eq_1
 apply Spec.fn Tryz.func50 rfl
 focus (simp[Tryz.f50]<;>exact rfl)
 focus
  refine wC T (g:=?_)
  obtain⟨v3,h1,hr⟩:=bs hr
  apply TD.cal (wn T) rfl zJ (gY h1) rfl rfl rfl
  repeat exact sd T
  refine wa_ T (g:=?_)
  apply TD.pop1 (wn T) (cN rfl)
  repeat exact sd T
  refine wa_ T (g:=?_)
  obtain⟨⟨v4,v5⟩,h2,hr⟩:=bs hr
  try dsimp only at hr
  apply TD.cal (wn T) rfl lV (bU h2) rfl rfl rfl
  repeat exact sd T
  refine wC T (g:=?_)
  obtain⟨⟨v6,v7⟩,h3,hr⟩:=bs hr
  try dsimp only at hr
  apply TD.cal (wn T) rfl zS (iB h3) rfl rfl rfl
  repeat exact sd T
  refine wa_ T (g:=?_)
  obtain⟨v8,h4,hr⟩:=bs hr
  apply TD.cal (wn T) rfl vN (eG h4) rfl rfl rfl
  repeat exact sd T
  refine we_ T (g:=?_)
  obtain⟨v9,h5,hr⟩:=bs hr
  apply TD.cal (wn T) rfl qF (hP h5) rfl rfl rfl
  repeat exact sd T
  refine wa_ T (g:=?_)
  cases hr
  refine⟨.inr rfl,_,(ry T),?_⟩
  exact wr [] rfl .nil
 rfl
end Go.Rex
namespace Go.Rex
open Go.Proofs
open Go Go.Rex Go.RowKit
set_option maxRecDepth 100000
set_option maxHeartbeats 1000000
def y13:=an @ag69 <| an @cs69 <| an @ok69 <| an @so93 <| an @dJ <| an @qR <| an @Au <| an @Av <| @zB
theorem eU{v1:Bool}{v2:Int}{v3:Bool}{v4:Int}{v5:(List Int)}{v6:Bool}{v7:Int}{v8:Bool}{v9:Int}{v10:Int}(hr:bF v1 v2 v3 v4 v5 v6 v7 v8 v9=some (v10)):Spec (lim Tryz.prog) 23 [.list 1 [[.func 48 [] [.fptr true [.v (.bool v1)] 0,.fptr true [.v (.int .i64 v2)] 0]],[.func 48 [] [.fptr true [.v (.bool v3)] 0,.fptr true [.v (.int .i64 v4)] 0]],[.func 50 [] [.fptr true [.list 1 (v5.map e_i)] 0]],[.func 48 [] [.fptr true [.v (.bool v6)] 0,.fptr true [.v (.int .i64 v7)] 0]],[.func 48 [] [.fptr true [.v (.bool v8)] 0,.fptr true [.v (.int .i64 v9)] 0]]]] ⟨[.v (.int .i64 v10)],[]⟩:=by
 unfold bF at hr
 have T:=an y13 <| @e_i.eq_1
 apply Spec.fn Tryz.func23 rfl
 focus (simp[Tryz.f23]<;>exact rfl)
 focus
  refine wc_ T (g:=?_)
  refine TX.unroll ?_
  refine wI T (g:=?_)
  obtain⟨v11,h1,hr⟩:=bs hr
  apply TO.cal (wn T) rfl lS (aN h1) rfl rfl rfl
  repeat exact sd T
  refine wa_ T (g:=?_)
  rcases ifs hr with⟨h2,hr⟩|⟨h2,hr⟩
  ·have T:=an h2 T
   refine wa_ T (g:=?_)
   cases hr
   refine⟨.inr rfl,_,(ry T),?_⟩
   exact wk_ T [] rfl .nil
  ·have T:=an h2 T
   refine wa_ T (g:=?_)
   refine TX.unroll ?_
   refine wI T (g:=?_)
   obtain⟨v12,h3,hr⟩:=bs hr
   apply TO.cal (wn T) rfl lS (aN h3) rfl rfl rfl
   repeat exact sd T
   refine wa_ T (g:=?_)
   rcases ifs hr with⟨h4,hr⟩|⟨h4,hr⟩
   ·have T:=an h4 T
    refine wa_ T (g:=?_)
    cases hr
    refine⟨.inr rfl,_,(ry T),?_⟩
    exact wk_ T [] rfl .nil
   ·have T:=an h4 T
    refine wa_ T (g:=?_)
    refine TX.unroll ?_
    refine wI T (g:=?_)
    obtain⟨v13,h5,hr⟩:=bs hr
    apply TO.cal (wn T) rfl Dz (hY h5) rfl rfl rfl
    repeat exact sd T
    refine wa_ T (g:=?_)
    rcases ifs hr with⟨h6,hr⟩|⟨h6,hr⟩
    ·have T:=an h6 T
     refine wa_ T (g:=?_)
     cases hr
     refine⟨.inr rfl,_,(ry T),?_⟩
     exact wk_ T [] rfl .nil
    ·have T:=an h6 T
     refine wa_ T (g:=?_)
     refine TX.unroll ?_
     refine wI T (g:=?_)
     obtain⟨v14,h7,hr⟩:=bs hr
     apply TO.cal (wn T) rfl lS (aN h7) rfl rfl rfl
     repeat exact sd T
     refine wa_ T (g:=?_)
     rcases ifs hr with⟨h8,hr⟩|⟨h8,hr⟩
     ·have T:=an h8 T
      refine wa_ T (g:=?_)
      cases hr
      refine⟨.inr rfl,_,(ry T),?_⟩
      exact wk_ T [] rfl .nil
     ·have T:=an h8 T
      refine wa_ T (g:=?_)
      refine TX.unroll ?_
      refine wI T (g:=?_)
      obtain⟨v15,h9,hr⟩:=bs hr
      apply TO.cal (wn T) rfl lS (aN h9) rfl rfl rfl
      repeat exact sd T
      refine wa_ T (g:=?_)
      rcases ifs hr with⟨h10,hr⟩|⟨h10,hr⟩
      ·have T:=an h10 T
       refine wa_ T (g:=?_)
       cases hr
       refine⟨.inr rfl,_,(ry T),?_⟩
       exact wk_ T [] rfl .nil
      ·have T:=an h10 T
       refine wa_ T (g:=?_)
       refine TX.unroll ?_
       refine wa_ T (g:=?_)
       cases hr
       refine⟨.inr rfl,_,(ry T),?_⟩
       exact wk_ T [] rfl .nil
 rfl
def y14:=an @ag22 <| an @ag28 <| an @ag3 <| an @ag30 <| an @cs30 <| an @cs69 <| an @nV <| an @nY <| an @nL <| an @ok30 <| an @so22 <| an @so28 <| an @so93 <| an @zc30 <| @zc69
theorem gM{v1:Int}{v2:(List (Int×(List Int)×Int))}{v3:Int}(hr:bG v1 v2=some (v3)):Spec (lim Tryz.prog) 46 [.v (.int .i64 v1),.fptr true [.list 3 (v2.map e_iLi_i)] 0] ⟨[.v (.int .i64 v3)],[]⟩:=by
 unfold bG at hr
 have T:=an y14 <| @e_iLi_i.eq_1
 apply Spec.fn Tryz.func46 rfl
 focus (simp[Tryz.f46]<;>exact rfl)
 focus
  refine wA T (g:=?_)
  obtain⟨⟨v4,v5,v6⟩,h1,hr⟩:=bs hr
  try dsimp only at hr
  have T:=an (gx e_iLi_i h1) T
  refine wA T (g:=?_)
  obtain⟨⟨v7,v8⟩,h2,hr⟩:=bs hr
  try dsimp only at hr
  apply TD.cal (wn T) rfl Ea (nH h2) rfl rfl rfl
  repeat exact sd T
  refine wa_ T (g:=?_)
  rcases ifs hr with⟨h3,hr⟩|⟨h3,hr⟩
  ·have T:=an h3 T
   refine wA T (g:=?_)
   obtain⟨⟨v9,v10,v11⟩,h4,hr⟩:=bs hr
   try dsimp only at hr
   have T:=an (gx e_iLi_i h4) T
   refine wA T (g:=?_)
   obtain⟨⟨v12,v13⟩,h5,hr⟩:=bs hr
   try dsimp only at hr
   apply TD.cal (wn T) rfl lV (bU h5) rfl rfl rfl
   repeat exact sd T
   refine wA T (g:=?_)
   obtain⟨v14,h6,hr⟩:=bs hr
   apply TD.cal (wn T) rfl yT (iD h6) rfl rfl rfl
   repeat exact sd T
   refine wC T (g:=?_)
   obtain⟨⟨v15,v16,v17⟩,h7,hr⟩:=bs hr
   try dsimp only at hr
   have T:=an (gx e_iLi_i h7) T
   refine wC T (g:=?_)
   obtain⟨⟨v18,v19⟩,h8,hr⟩:=bs hr
   try dsimp only at hr
   apply TD.cal (wn T) rfl lV (bU h8) rfl rfl rfl
   repeat exact sd T
   refine wA T (g:=?_)
   obtain⟨⟨v20,v21⟩,h9,hr⟩:=bs hr
   try dsimp only at hr
   apply TD.cal (wn T) rfl Ao (iC h9) rfl rfl rfl
   repeat exact sd T
   refine we_ T (g:=?_)
   obtain⟨v22,h10,hr⟩:=bs hr
   apply TD.cal (wn T) rfl qF (eU h10) rfl rfl rfl
   repeat exact sd T
   refine wa_ T (g:=?_)
   cases hr
   refine⟨.inr rfl,_,(ry T),?_⟩
   exact wk_ T [] rfl .nil
  ·have T:=an h3 T
   refine wa_ T (g:=?_)
   obtain⟨⟨v23,v24⟩,h11,hr⟩:=bs hr
   try dsimp only at hr
   apply TD.cal (wn T) rfl lV (bU h11) rfl rfl rfl
   repeat exact sd T
   refine wA T (g:=?_)
   obtain⟨v25,h12,hr⟩:=bs hr
   apply TD.cal (wn T) rfl yT (iD h12) rfl rfl rfl
   repeat exact sd T
   refine wC T (g:=?_)
   obtain⟨⟨v26,v27,v28⟩,h13,hr⟩:=bs hr
   try dsimp only at hr
   have T:=an (gx e_iLi_i h13) T
   refine wC T (g:=?_)
   obtain⟨⟨v29,v30⟩,h14,hr⟩:=bs hr
   try dsimp only at hr
   apply TD.cal (wn T) rfl lV (bU h14) rfl rfl rfl
   repeat exact sd T
   refine wA T (g:=?_)
   obtain⟨⟨v31,v32⟩,h15,hr⟩:=bs hr
   try dsimp only at hr
   apply TD.cal (wn T) rfl Ao (iC h15) rfl rfl rfl
   repeat exact sd T
   refine we_ T (g:=?_)
   obtain⟨v33,h16,hr⟩:=bs hr
   apply TD.cal (wn T) rfl qF (eU h16) rfl rfl rfl
   repeat exact sd T
   refine wa_ T (g:=?_)
   cases hr
   refine⟨.inr rfl,_,(ry T),?_⟩
   exact wk_ T [] rfl .nil
 rfl
end Go.Rex
namespace Go.Rex
open Go.Proofs
open Go Go.Rex Go.RowKit
set_option maxRecDepth 100000
set_option maxHeartbeats 200000
def y15:=@dJ
theorem hZ{v1:Int}{v2:(List (Int×(List Int)×Int))}{v3:Int}{v4:Int}(hr:cY v1 v2=some (v3,v4)):Spec (lim Tryz.prog) 45 [.v (.int .i64 v1),.func 46 [] [.fptr true [.list 3 (v2.map e_iLi_i)] 0]] ⟨[.tuple [.v (.int .i64 v3),.v (.int .i64 v4)]],[]⟩:=by
 unfold cY at hr
 have T:=an y15 <| @e_iLi_i.eq_1
 apply Spec.fn Tryz.func45 rfl
 focus (simp[Tryz.f45]<;>exact rfl)
 focus
  refine wa_ T (g:=?_)
  obtain⟨v10,h7,hr⟩:=bs hr
  refine TX.loopE (step:=aW v1 v2) (x:=0) h7 (fun v5=>⟨.Z::.func 46 [] [.fptr true [.list 3 (v2.map e_iLi_i)] 0]::.Z::.Z::.Z::.Z::.Z::.Z::.v (.int .i64 v1)::.v (.int .i64 v5)::.Z::.Z::.Z::.Z::.Z::.Z::.Z::.Z::.Z::.Z::[],[]⟩) (fun e=>match e with|(.inl (v7,v8))=>(.ret,⟨.Z::.Z::.Z::.Z::.v (.int .i64 v7)::.v (.int .i64 v8)::.Z::.Z::.Z::.Z::.Z::.Z::.Z::.Z::.Z::.Z::.Z::.Z::.Z::.Z::[],[]⟩)|(.inr _)=>(.exit 0,⟨.Z::.Z::.Z::.Z::.Z::.Z::.Z::.Z::.Z::.Z::.Z::.Z::.Z::.Z::.Z::.Z::.Z::.Z::.Z::.Z::[],[]⟩)) ?_ ?_ ?_ ?_
  ·rintro v5 v0 hr
   dsimp only[aW] at hr
   try dsimp only
   refine wa_ T (g:=?_)
   rcases ifs hr with⟨h4,hr⟩|⟨h4,hr⟩
   ·have T:=an h4 T
    refine wa_ T (g:=?_)
    obtain⟨v9,h5,hr⟩:=bs hr
    apply TO.cal (wn T) rfl Du (gM h5) rfl rfl rfl
    repeat exact sd T
    refine wa_ T (g:=?_)
    rcases ifs hr with⟨h6,hr⟩|⟨h6,hr⟩
    ·have T:=an h6 T
     refine wa_ T (g:=?_)
     cases hr
     refine⟨rfl,?_⟩
     exact wk_ T [] rfl .nil
    ·have T:=an h6 T
     refine wa_ T (g:=?_)
     cases hr
     refine⟨rfl,?_⟩
     exact wk_ T [] rfl .nil
   ·have T:=an h4 T
    refine wa_ T (g:=?_)
    cases hr
    refine⟨rfl,?_⟩
    exact wk_ T [] rfl .nil
  ·intro e h;rcases e with _|e<;>cases h
  ·try dsimp only
   rcases v10 with⟨v11,v12⟩|_
   ·try dsimp only at hr
    try dsimp only
    refine wa_ T (g:=?_)
    cases hr
    refine⟨.inr rfl,_,(ry T),?_⟩
    exact wr [] rfl .nil
   ·try dsimp only at hr
    try dsimp only
    refine wa_ T (g:=?_)
    cases hr
    refine⟨.inr rfl,_,(ry T),?_⟩
    exact wr [] rfl .nil
  ·try dsimp only
   exact wr [] rfl .nil
 rfl
def y16:=an @ag22 <| @so22
theorem gB{v1:(List (Int×(List Int)×Int))}{v2:Int}{v3:Int}(hr:cX v1=some (v2,v3)):Spec (lim Tryz.prog) 25 [.list 3 (v1.map e_iLi_i)] ⟨[.tuple [.v (.int .i64 v2),.v (.int .i64 v3)]],[]⟩:=by
 unfold cX at hr
 have T:=an y16 <| @e_iLi_i.eq_1
 apply Spec.fn Tryz.func25 rfl
 focus (simp[Tryz.f25]<;>exact rfl)
 focus
  refine wD T (g:=?_)
  rcases ifs hr with⟨h1,hr⟩|⟨h1,hr⟩
  ·have T:=an h1 T
   refine wa_ T (g:=?_)
   cases hr
   refine⟨.inr rfl,_,(ry T),?_⟩
   exact wk_ T [] rfl .nil
  ·have T:=an h1 T
   refine wC T (g:=?_)
   obtain⟨⟨v4,v5⟩,h2,hr⟩:=bs hr
   try dsimp only at hr
   apply TO.cal (wn T) rfl zS (hZ h2) rfl rfl rfl
   repeat exact sd T
   refine wa_ T (g:=?_)
   cases hr
   refine⟨.inr rfl,_,(ry T),?_⟩
   exact wk_ T [] rfl .nil
 rfl
def y17:=an @ag69 <| an @cs69 <| an @ok69 <| an @so93 <| an @dJ <| @qR
theorem eT{v1:Int}{v2:Bool}{v3:Int}{v4:Int}(hr:bH v1 v2 v3=some (v4)):Spec (lim Tryz.prog) 23 [.list 1 [[.func 44 [] [.fptr true [.v (.int .i64 v1)] 0]],[.func 48 [] [.fptr true [.v (.bool v2)] 0,.fptr true [.v (.int .i64 v3)] 0]]]] ⟨[.v (.int .i64 v4)],[]⟩:=by
 unfold bH at hr
 have T:=y17
 apply Spec.fn Tryz.func23 rfl
 focus (simp[Tryz.f23]<;>exact rfl)
 focus
  refine wc_ T (g:=?_)
  refine TX.unroll ?_
  refine wI T (g:=?_)
  obtain⟨v5,h1,hr⟩:=bs hr
  apply TO.cal (wn T) rfl Az (dX h1) rfl rfl rfl
  repeat exact sd T
  refine wa_ T (g:=?_)
  rcases ifs hr with⟨h2,hr⟩|⟨h2,hr⟩
  ·have T:=an h2 T
   refine wa_ T (g:=?_)
   cases hr
   refine⟨.inr rfl,_,(ry T),?_⟩
   exact wk_ T [] rfl .nil
  ·have T:=an h2 T
   refine wa_ T (g:=?_)
   refine TX.unroll ?_
   refine wI T (g:=?_)
   obtain⟨v6,h3,hr⟩:=bs hr
   apply TO.cal (wn T) rfl lS (aN h3) rfl rfl rfl
   repeat exact sd T
   refine wa_ T (g:=?_)
   rcases ifs hr with⟨h4,hr⟩|⟨h4,hr⟩
   ·have T:=an h4 T
    refine wa_ T (g:=?_)
    cases hr
    refine⟨.inr rfl,_,(ry T),?_⟩
    exact wk_ T [] rfl .nil
   ·have T:=an h4 T
    refine wa_ T (g:=?_)
    refine TX.unroll ?_
    refine wa_ T (g:=?_)
    cases hr
    refine⟨.inr rfl,_,(ry T),?_⟩
    exact wk_ T [] rfl .nil
 rfl
def y18:=an @ag3 <| an @ag30 <| an @cs30 <| an @cs69 <| an @nV <| an @nL <| an @ok30 <| an @so22 <| an @so93 <| an @zc30 <| @zc69
theorem lB{v1:(List (Int×(List Int)×Int))}{v2:Int}{v3:Int}(hr:eF v1=some (v2,v3)):Spec (lim Tryz.prog) 7 [.list 3 (v1.map e_iLi_i)] ⟨[.tuple [.v (.int .i64 v2),.v (.int .i64 v3)]],[]⟩:=by
 unfold eF at hr
 have T:=an y18 <| @e_iLi_i.eq_1
 apply Spec.fn Tryz.func7 rfl
 focus (simp[Tryz.f7]<;>exact rfl)
 focus
  refine wa_ T (g:=?_)
  obtain⟨⟨v4,v5⟩,h1,hr⟩:=bs hr
  try dsimp only at hr
  apply TO.cal (wn T) rfl Aw (gB h1) rfl rfl rfl
  repeat exact sd T
  refine wa_ T (g:=?_)
  obtain⟨v6,h2,hr⟩:=bs hr
  apply TO.cal (wn T) rfl vN (eG h2) rfl rfl rfl
  repeat exact sd T
  refine wc_ T (g:=?_)
  obtain⟨⟨v7,v8⟩,h3,hr⟩:=bs hr
  try dsimp only at hr
  apply TO.cal (wn T) rfl lV (bU h3) rfl rfl rfl
  repeat exact sd T
  refine we_ T (g:=?_)
  obtain⟨v9,h4,hr⟩:=bs hr
  apply TO.cal (wn T) rfl qF (eT h4) rfl rfl rfl
  repeat exact sd T
  refine wa_ T (g:=?_)
  rcases ifs hr with⟨h5,hr⟩|⟨h5,hr⟩
  ·have T:=an h5 T
   refine wa_ T (g:=?_)
   cases hr
   refine⟨.inr rfl,_,(ry T),?_⟩
   exact wk_ T [] rfl .nil
  ·have T:=an h5 T
   refine wc_ T (g:=?_)
   obtain⟨⟨v10,v11,v12⟩,h6,hr⟩:=bs hr
   try dsimp only at hr
   have T:=an (gx e_iLi_i h6) T
   refine wA T (g:=?_)
   cases hr
   refine⟨.inr rfl,_,(ry T),?_⟩
   exact wk_ T [] rfl .nil
 rfl
theorem dD{v1:Int}{v2:Int}{v3:Int}(hr:eE v1 v2=some (v3)):Spec (lim Tryz.prog) 10 [.v (.int .i64 v1),.v (.int .i64 v2)] ⟨[.v (.int .i64 v3)],[]⟩:=by
 unfold eE at hr
 have T:=trivial
 apply Spec.fn Tryz.func10 rfl
 focus (simp[Tryz.f10]<;>exact rfl)
 focus
  refine wa_ T (g:=?_)
  by_cases h1:v2=0
  ·rw[b5 h1] at hr
   cases hr
  ·rw[b6 h1] at hr
   have T:=an h1 T
   refine wa_ T (g:=?_)
   rcases ifs hr with⟨h2,hr⟩|⟨h2,hr⟩
   ·have T:=an h2 T
    refine wa_ T (g:=?_)
    cases hr
    refine⟨.inr rfl,_,(ry T),?_⟩
    exact wk_ T [] rfl .nil
   ·have T:=an h2 T
    refine wa_ T (g:=?_)
    cases hr
    refine⟨.inr rfl,_,(ry T),?_⟩
    exact wk_ T [] rfl .nil
 rfl
def y19:=an @by3 <| an @cs3 <| an @ni28 <| an @so28 <| @zc3
theorem hM{v1:(List Int)}{v2:(List Int)}(hr:cC v1=some (v2)):Spec (lim Tryz.prog) 52 [.list 1 (v1.map e_i)] ⟨[.lsl 0 0 v2.length],[.rows 1 (v2.map e_i)]⟩:=by
 unfold cC at hr
 have T:=an y19 <| @e_i.eq_1
 apply Spec.fn Tryz.func52 rfl
 focus (simp[Tryz.f52]<;>exact rfl)
 focus
  refine wa_ T (g:=?_)
  refine TO.nq (wn T) (.inl rfl) rfl rfl so28 ?_ ?_
  ·intro h1
   replace hr:=Cs hr h1
   show TO _ _ _ _ ⟨[.list 1 (v1.map e_i),.Z,.v (.slice none 0 0),.list 1 (v1.map e_i),.v (.bool true),.Z,.Z,.Z],[]⟩ _
   refine wa_ T (g:=?_)
   cases hr
   refine⟨.inr rfl,_,(ry T),?_⟩
   exact wr [none] rfl (.virt .nil)
  ·replace hr:=Ds hr
   show TO _ _ _ _ ⟨[.list 1 (v1.map e_i),.Z,.v (.slice none 0 0),.list 1 (v1.map e_i),.v (.bool false),.Z,.Z,.Z],[]⟩ _
   refine wa_ T (g:=?_)
   apply TO.bl e_i ([]:List Int) (wn T) rfl (by simp only[zz,y19,e_i,Nat.reduceAdd,Nat.reduceMul,Nat.reduceLeDiff,Nat.reduceEqDiff,tslice,tparts];exact rfl) rfl rfl
   repeat exact sd T
   refine wa_ T (g:=?_)
   obtain⟨v3,h2,hr⟩:=bs hr
   apply TO.ap (f:=e_i) (xs:=([]:List Int)) (ys:=v1) (wn T) rfl rfl (by first|rfl|simp only[List.length_set]) rfl rfl so28 ni28 zc3 rfl (by rw[by3];exact h2) (fun _=>⟨rfl,rfl,rfl⟩)
   repeat exact sd T
   refine wa_ T (g:=?_)
   cases hr
   refine⟨.inr rfl,_,(ry T),?_⟩
   exact wr [some 0] rfl (.rows .nil rfl rfl)
 rfl
theorem oY{v1:Int}{v2:Int}{v3:Int}(hr:jE v1 v2=some (v3)):Spec (lim Tryz.prog) 71 [.v (.int .i64 v1),.v (.int .i64 v2)] ⟨[.v (.int .i64 v3)],[]⟩:=by
 unfold jE at hr
 have T:=trivial
 apply Spec.fn Tryz.func71 rfl
 focus (simp[Tryz.f71]<;>exact rfl)
 focus
  refine wa_ T (g:=?_)
  by_cases h1:v2=0
  ·rw[b5 h1] at hr
   cases hr
  ·rw[b6 h1] at hr
   have T:=an h1 T
   refine wa_ T (g:=?_)
   cases hr
   refine⟨.inr rfl,_,(ry T),?_⟩
   exact wr [] rfl .nil
 rfl
theorem mT{v1:Int}{v2:Int}{v3:Int}(hr:fN v1 v2=some (v3)):Spec (lim Tryz.prog) 53 [.v (.int .i64 v1),.v (.int .i64 v2)] ⟨[.v (.int .i64 v3)],[]⟩:=by
 unfold fN at hr
 have T:=trivial
 apply Spec.fn Tryz.func53 rfl
 focus (simp[Tryz.f53]<;>exact rfl)
 focus
  refine wa_ T (g:=?_)
  obtain⟨v4,h1,hr⟩:=bs hr
  apply TO.cal (wn T) rfl Da (oY h1) rfl rfl rfl
  repeat exact sd T
  refine wa_ T (g:=?_)
  cases hr
  refine⟨.inr rfl,_,(ry T),?_⟩
  exact wr [] rfl .nil
 rfl
def y20:=an @ag28 <| an @ag3 <| an @cs3 <| an @Dq <| an @Db <| an @Cz <| an @Do <| an @ok3 <| an @so28 <| @dJ
theorem hH{v1:(List Int)}{v2:(List Int)}{v3:Int}{v4:Int}{v5:(List Int)}(hr:eA v1 v2 v3 v4=some (v5)):Spec (lim Tryz.prog) 32 [.agg [.list 1 (v1.map e_i),.list 1 (v2.map e_i),.v (.int .i64 v3),.v (.int .i64 v4)]] ⟨[.lsl 0 0 v5.length],[.rows 1 (v5.map e_i)]⟩:=by
 unfold eA at hr
 have T:=an y20 <| @e_i.eq_1
 apply Spec.fn Tryz.func32 rfl
 focus (simp[Tryz.f32]<;>exact rfl)
 focus
  refine wB T (g:=?_)
  obtain⟨v6,h1,hr⟩:=bs hr
  apply TO.cal (wn T) rfl Dj (hM h1) rfl rfl rfl
  repeat exact sd T
  refine wA T (g:=?_)
  rcases ifs hr with⟨h2,hr⟩|⟨h2,hr⟩
  ·have T:=an h2 T
   refine wa_ T (g:=?_)
   cases hr
   refine⟨.inr rfl,_,(ry T),?_⟩
   exact wk_ T [some 0] rfl (.rows .nil rfl rfl)
  ·have T:=an h2 T
   refine wC T (g:=?_)
   obtain⟨v18,h13,hr⟩:=bs hr
   refine TX.loopE (step:=cP v1 v2 v3 v4) (x:=(v6,0)) h13 (fun (v7,v8)=>⟨.Z::.fptr true [.list 1 (v1.map e_i),.list 1 (v2.map e_i),.v (.int .i64 v3),.v (.int .i64 v4)] 0::.Z::.lsl 0 0 v7.length::.Z::.Z::.Z::.Z::.Z::.Z::.Z::.Z::.Z::.Z::.Z::.Z::.list 1 (v1.map e_i)::.v (.int .i64 (v1.length:Int))::.v (.int .i64 v8)::.Z::.Z::.Z::.Z::.Z::.Z::.Z::.Z::.Z::.Z::.Z::.Z::.Z::.Z::.Z::.Z::.Z::.Z::.Z::.Z::.Z::.Z::.Z::.Z::[],[.rows 1 (v7.map e_i)]⟩) (fun v13=>(.exit 0,⟨.Z::.Z::.Z::.lsl 0 0 v13.length::.Z::.Z::.Z::.Z::.Z::.Z::.Z::.Z::.Z::.Z::.Z::.Z::.Z::.Z::.Z::.Z::.Z::.Z::.Z::.Z::.Z::.Z::.Z::.Z::.Z::.Z::.Z::.Z::.Z::.Z::.Z::.Z::.Z::.Z::.Z::.Z::.Z::.Z::.Z::[],[.rows 1 (v13.map e_i)]⟩)) ?_ ?_ ?_ ?_
   ·rintro⟨v7,v8⟩ v0 hr
    dsimp only[cP] at hr
    try dsimp only
    refine wa_ T (g:=?_)
    rcases ifs hr with⟨h8,hr⟩|⟨h8,hr⟩
    ·have T:=an h8 T
     refine wa_ T (g:=?_)
     obtain⟨v14,h9,hr⟩:=bs hr
     have T:=an (gx e_i h9) T
     refine wA T (g:=?_)
     obtain⟨v15,h10,hr⟩:=bs hr
     have T:=an (gx e_i h10) T
     refine wA T (g:=?_)
     obtain⟨v16,h11,hr⟩:=bs hr
     apply TD.cal (wn T) rfl Cw (mT h11) rfl rfl rfl
     repeat exact sd T
     refine wa_ T (g:=?_)
     obtain⟨v17,h12,hr⟩:=bs hr
     have h12m:=pV (f:=e_i) h12
     have h12l:=pD h12
     try simp only[List.length_set] at h12l
     have h12a:=pE h12
     have T:=an h12m T
     have T:=an h12l T
     have T:=an h12a T
     refine wa_ T (g:=?_)
     apply TD.sr e_i v7 v17 (IntKind.i64.wrap (v14+v16)) h12a (wn T) rfl rfl rfl rfl rfl ok3 (by rw[cs3];rfl) rfl rfl rfl rfl rfl
     repeat exact sd T
     refine wa_ T (g:=?_)
     cases hr
     refine⟨rfl,?_⟩
     exact wk_ T [some 0] rfl (.rows .nil rfl rfl)
    ·have T:=an h8 T
     refine wa_ T (g:=?_)
     cases hr
     refine⟨rfl,?_⟩
     exact wk_ T [some 0] rfl (.rows .nil rfl rfl)
   ·intro e h;cases h
   ·try dsimp only
    refine wa_ T (g:=?_)
    cases hr
    refine⟨.inr rfl,_,(ry T),?_⟩
    exact wk_ T [some 0] rfl (.rows .nil rfl rfl)
   ·try dsimp only
    exact wk_ T [some 0] rfl (.rows .nil rfl rfl)
 rfl
end Go.Rex
namespace Go.Rex
open Go.Proofs
open Go Go.Rex Go.RowKit
set_option maxRecDepth 100000
set_option maxHeartbeats 1000000
def y21:=an @ag28 <| an @ag3 <| an @ag30 <| an @by3 <| an @cs30 <| an @nV <| an @nY <| an @nL <| an @ok30 <| an @so22 <| an @so28 <| an @st42 <| an @zc3 <| an @zc30 <| an @zc42 <| @dJ
theorem lX{v1:(List (Int×(List Int)×Int))}{v2:Int}{v3:(List Int)}(hr:eZ v1 v2=some (v3)):Spec (lim Tryz.prog) 29 [.list 3 (v1.map e_iLi_i),.v (.int .i64 v2)] ⟨[.lsl 0 0 v3.length],[.rows 1 (v3.map e_i)]⟩:=by
 unfold eZ at hr
 have T:=an y21 <| an @e_i.eq_1 <| @e_iLi_i.eq_1
 apply Spec.fn Tryz.func29 rfl
 focus (simp[Tryz.f29]<;>exact rfl)
 focus
  refine wc_ T (g:=?_)
  rcases ifs hr with⟨h1,hr⟩|⟨h1,hr⟩
  ·have T:=an h1 T
   refine wa_ T (g:=?_)
   cases hr
   refine⟨.inr rfl,_,(ry T),?_⟩
   exact wk_ T [none] rfl (.virt .nil)
  ·have T:=an h1 T
   refine wa_ T (g:=?_)
   obtain⟨⟨v4,v5,v6⟩,h2,hr⟩:=bs hr
   try dsimp only at hr
   have T:=an (gx e_iLi_i h2) T
   refine wC T (g:=?_)
   obtain⟨v7,h3,hr⟩:=bs hr
   apply TO.mk e_i h3 (wn T) rfl rfl so28 zc3 by3 rfl rfl rfl
   repeat exact sd T
   refine wc_ T (g:=?_)
   obtain⟨v27,h18,hr⟩:=bs hr
   refine TX.loopE (step:=dG v1 v2) (x:=(v7,0)) h18 (fun (v8,v9)=>⟨.list 3 (v1.map e_iLi_i)::.v (.int .i64 v2)::.Z::.Z::.Z::.lsl 0 0 v8.length::.Z::.Z::.Z::.Z::.Z::.Z::.Z::.Z::.Z::.Z::.Z::.Z::.list 3 (v1.map e_iLi_i)::.v (.int .i64 (v1.length:Int))::.v (.int .i64 v9)::.Z::.Z::.Z::.Z::.Z::.Z::.Z::.Z::.Z::.Z::.Z::.Z::.Z::.Z::.Z::.Z::.Z::.Z::.Z::.Z::.Z::.Z::.Z::.Z::.Z::.Z::.Z::.Z::.Z::.Z::.Z::.Z::.Z::.Z::.Z::.Z::.Z::.Z::[],[.rows 1 (v8.map e_i)]⟩) (fun v18=>(.exit 0,⟨.Z::.Z::.Z::.Z::.Z::.lsl 0 0 v18.length::.Z::.Z::.Z::.Z::.Z::.Z::.Z::.Z::.Z::.Z::.Z::.Z::.Z::.Z::.Z::.Z::.Z::.Z::.Z::.Z::.Z::.Z::.Z::.Z::.Z::.Z::.Z::.Z::.Z::.Z::.Z::.Z::.Z::.Z::.Z::.Z::.Z::.Z::.Z::.Z::.Z::.Z::.Z::.Z::.Z::.Z::.Z::.Z::.Z::.Z::.Z::.Z::.Z::[],[.rows 1 (v18.map e_i)]⟩)) ?_ ?_ ?_ ?_
   ·rintro⟨v8,v9⟩ v0 hr
    dsimp only[dG] at hr
    try dsimp only
    refine wa_ T (g:=?_)
    rcases ifs hr with⟨h11,hr⟩|⟨h11,hr⟩
    ·have T:=an h11 T
     refine wa_ T (g:=?_)
     obtain⟨⟨v19,v20,v21⟩,h12,hr⟩:=bs hr
     try dsimp only at hr
     have T:=an (gx e_iLi_i h12) T
     refine wA T (g:=?_)
     rcases ifs hr with⟨h13,hr⟩|⟨h13,hr⟩
     ·have T:=an h13 T
      refine wa_ T (g:=?_)
      cases hr
      refine⟨rfl,?_⟩
      exact wk_ T [some 0] rfl (.rows .nil rfl rfl)
     ·have T:=an h13 T
      refine wc_ T (g:=?_)
      rcases ifs hr with⟨h14,hr⟩|⟨h14,hr⟩
      ·have T:=an h14 T
       refine wa_ T (g:=?_)
       obtain⟨⟨v22,v23,v24⟩,h15,hr⟩:=bs hr
       try dsimp only at hr
       have T:=an (gx e_iLi_i h15) T
       refine wA T (g:=?_)
       apply TO.pop1 (wn T) (sP rfl rfl)
       repeat exact sd T
       refine wA T (g:=?_)
       apply TO.pop1 (wn T) (sP rfl rfl)
       repeat exact sd T
       refine wa_ T (g:=?_)
       obtain⟨v25,h16,hr⟩:=bs hr
       apply TO.lok (wn T) rfl Ac (hH h16) (vw T) rfl rfl (by simp[iQ,cl,e_i,e_iLi_i])
       repeat exact sd T
       refine wa_ T (g:=?_)
       cases hr
       refine⟨rfl,?_⟩
       exact wk_ T [some 2] rfl (.rows .nil rfl rfl)
      ·have T:=an h14 T
       refine wA T (g:=?_)
       apply TO.pop1 (wn T) (sP rfl rfl)
       repeat exact sd T
       refine wa_ T (g:=?_)
       obtain⟨v26,h17,hr⟩:=bs hr
       apply TO.lok (wn T) rfl Ac (hH h17) (vw T) rfl rfl (by simp[iQ,cl,e_i,e_iLi_i])
       repeat exact sd T
       refine wa_ T (g:=?_)
       cases hr
       refine⟨rfl,?_⟩
       exact wk_ T [some 2] rfl (.rows .nil rfl rfl)
    ·have T:=an h11 T
     refine wa_ T (g:=?_)
     cases hr
     refine⟨rfl,?_⟩
     exact wk_ T [some 0] rfl (.rows .nil rfl rfl)
   ·intro e h;cases h
   ·try dsimp only
    refine wa_ T (g:=?_)
    cases hr
    refine⟨.inr rfl,_,(ry T),?_⟩
    exact wk_ T [some 0] rfl (.rows .nil rfl rfl)
   ·try dsimp only
    exact wk_ T [some 0] rfl (.rows .nil rfl rfl)
 rfl
end Go.Rex
namespace Go.Rex
open Go.Proofs
open Go Go.Rex Go.RowKit
set_option maxRecDepth 100000
set_option maxHeartbeats 200000
def y22:=an @cs69 <| an @so93 <| @zc69
theorem aU{v1:(List (Int×(List Int)×Int))}{v2:Int}{v3:(List Int)}{v4:Int}(hr:aE v1 v2=some (v3,v4)):Spec (lim Tryz.prog) 9 [.list 3 (v1.map e_iLi_i),.v (.int .i64 v2)] ⟨[.tuple [.lsl 0 0 v3.length,.v (.int .i64 v4)]],[.rows 1 (v3.map e_i)]⟩:=by
 unfold aE at hr
 have T:=an y22 <| an @e_i.eq_1 <| @e_iLi_i.eq_1
 apply Spec.fn Tryz.func9 rfl
 focus (simp[Tryz.f9]<;>exact rfl)
 focus
  refine wa_ T (g:=?_)
  obtain⟨⟨v5,v6⟩,h1,hr⟩:=bs hr
  try dsimp only at hr
  apply TO.cal (wn T) rfl Aw (gB h1) rfl rfl rfl
  repeat exact sd T
  refine wa_ T (g:=?_)
  obtain⟨v7,h2,hr⟩:=bs hr
  apply TO.cal (wn T) rfl vN (eG h2) rfl rfl rfl
  repeat exact sd T
  refine wa_ T (g:=?_)
  obtain⟨⟨v8,v9⟩,h3,hr⟩:=bs hr
  try dsimp only at hr
  apply TO.cal (wn T) rfl uA (eM h3) rfl rfl rfl
  repeat exact sd T
  refine we_ T (g:=?_)
  obtain⟨v10,h4,hr⟩:=bs hr
  apply TO.cal (wn T) rfl qF (eT h4) rfl rfl rfl
  repeat exact sd T
  refine wa_ T (g:=?_)
  rcases ifs hr with⟨h5,hr⟩|⟨h5,hr⟩
  ·have T:=an h5 T
   refine wa_ T (g:=?_)
   cases hr
   refine⟨.inr rfl,_,(ry T),?_⟩
   exact wk_ T [none] rfl (.virt .nil)
  ·have T:=an h5 T
   refine wa_ T (g:=?_)
   obtain⟨v11,h6,hr⟩:=bs hr
   apply TO.cal (wn T) rfl Cp (lX h6) rfl rfl rfl
   repeat exact sd T
   refine wa_ T (g:=?_)
   cases hr
   refine⟨.inr rfl,_,(ry T),?_⟩
   exact wk_ T [some 0] rfl (.rows .nil rfl rfl)
 rfl
def y23:=an @ag3 <| an @cs3 <| an @ok3 <| an @so28 <| @dJ
theorem kH{v1:(List Int)}{v2:(List Int)}{v3:Bool}(hr:fD v1 v2=some (v3)):Spec (lim Tryz.prog) 11 [.list 1 (v1.map e_i),.list 1 (v2.map e_i)] ⟨[.v (.bool v3)],[]⟩:=by
 unfold fD at hr
 have T:=an y23 <| @e_i.eq_1
 apply Spec.fn Tryz.func11 rfl
 focus (simp[Tryz.f11]<;>exact rfl)
 focus
  refine wc_ T (g:=?_)
  rcases ifs hr with⟨h1,hr⟩|⟨h1,hr⟩
  ·have T:=an h1 T
   refine wa_ T (g:=?_)
   cases hr
   refine⟨.inr rfl,_,(ry T),?_⟩
   exact wk_ T [] rfl .nil
  ·have T:=an h1 T
   refine wa_ T (g:=?_)
   obtain⟨v9,h10,hr⟩:=bs hr
   refine TX.loopE (step:=eP v1 v2) (x:=0) h10 (fun v4=>⟨.list 1 (v1.map e_i)::.list 1 (v2.map e_i)::.Z::.Z::.Z::.v (.int .i64 v4)::.Z::.Z::.Z::.Z::.Z::.Z::.Z::.Z::.Z::.Z::.Z::.Z::.Z::.Z::.Z::.Z::.Z::.Z::.Z::.Z::[],[]⟩) (fun e=>match e with|(.inl _)=>(.ret,⟨.Z::.Z::.Z::.Z::.v (.bool false)::.Z::.Z::.Z::.Z::.Z::.Z::.Z::.Z::.Z::.Z::.Z::.Z::.Z::.Z::.Z::.Z::.Z::.Z::.Z::.Z::.Z::[],[]⟩)|(.inr _)=>(.exit 0,⟨.Z::.Z::.Z::.Z::.Z::.Z::.Z::.Z::.Z::.Z::.Z::.Z::.Z::.Z::.Z::.Z::.Z::.Z::.Z::.Z::.Z::.Z::.Z::.Z::.Z::.Z::[],[]⟩)) ?_ ?_ ?_ ?_
   ·rintro v4 v0 hr
    dsimp only[eP] at hr
    try dsimp only
    refine wc_ T (g:=?_)
    rcases ifs hr with⟨h6,hr⟩|⟨h6,hr⟩
    ·have T:=an h6 T
     refine wa_ T (g:=?_)
     obtain⟨v7,h7,hr⟩:=bs hr
     have T:=an (gx e_i h7) T
     refine wA T (g:=?_)
     obtain⟨v8,h8,hr⟩:=bs hr
     have T:=an (gx e_i h8) T
     refine wA T (g:=?_)
     rcases ifs hr with⟨h9,hr⟩|⟨h9,hr⟩
     ·have T:=an h9 T
      refine wa_ T (g:=?_)
      cases hr
      refine⟨rfl,?_⟩
      exact wk_ T [] rfl .nil
     ·have T:=an h9 T
      refine wa_ T (g:=?_)
      cases hr
      refine⟨rfl,?_⟩
      exact wk_ T [] rfl .nil
    ·have T:=an h6 T
     refine wa_ T (g:=?_)
     cases hr
     refine⟨rfl,?_⟩
     exact wk_ T [] rfl .nil
   ·intro e h;rcases e with _|e<;>cases h
   ·try dsimp only
    rcases v9 with _|_
    ·try dsimp only at hr
     try dsimp only
     refine wa_ T (g:=?_)
     cases hr
     refine⟨.inr rfl,_,(ry T),?_⟩
     exact wk_ T [] rfl .nil
    ·try dsimp only at hr
     try dsimp only
     refine wa_ T (g:=?_)
     cases hr
     refine⟨.inr rfl,_,(ry T),?_⟩
     exact wk_ T [] rfl .nil
   ·try dsimp only
    exact wk_ T [] rfl .nil
 rfl
end Go.Rex
namespace Go.Rex
open Go.Proofs
open Go Go.Rex Go.RowKit
set_option maxRecDepth 100000
end Go.Rex
namespace Go.Rex
open Go.Proofs
open Go Go.Rex Go.RowKit
set_option maxRecDepth 100000
set_option maxHeartbeats 4000000
def y24:=an @ag28 <| an @ag3 <| an @ag30 <| an @ar23 <| an @cs3 <| an @cs30 <| an @nV <| an @nY <| an @nL <| an @ok3 <| an @ok30 <| an @so22 <| an @so23 <| an @so28 <| an @zc30 <| @dJ
theorem kZ{v1:(List (Int×(List Int)×Int))}{v2:Int}{v3:Int}(hr:fB v1 v2 v3=some true){Fz:Nat→Prop}{h:List Blk}{vs:List Value}(hfz:FZ Fz h)(hargs:VLs Fz h noL [.list 3 (v1.map e_iLi_i),.agg [.v (.int .i64 v2),.v (.int .i64 v3)]] vs)
 {B lo:Nat} {D:Nat→Prop} {m:NMap} {w:World} {args':List Value} (hrel:Rel B lo D m h w) (hlo:lo≤h.length) (hargs':VRs D m vs args'):Calls Tryz.prog 3 ⟨args'⟩ w (fun e w'=>e = .returned (.bool true)∧Below w.heap.size w w'):=by
 unfold fB at hr
 have T:=an y24 <| an @e_i.eq_1 <| @e_iLi_i.eq_1
 refine Bx follows awake_true Tryz.func3 rfl (tm0:=.list 3 (v1.map e_iLi_i)::.agg [.v (.int .i64 v2),.v (.int .i64 v3)]::.Z::.Z::.Z::.Z::.Z::.Z::.Z::.Z::.Z::.Z::.Z::.Z::.Z::.Z::.Z::.Z::.Z::.Z::.Z::.Z::.Z::.Z::.Z::.Z::.Z::.Z::.Z::.Z::.Z::.Z::.Z::.Z::.Z::.Z::.Z::.Z::.Z::.Z::.Z::.Z::.Z::.Z::.Z::.Z::.Z::.Z::.Z::.Z::.Z::.Z::.Z::.Z::.Z::.Z::.Z::.Z::.Z::.Z::.Z::.Z::.Z::.Z::.Z::.Z::.Z::.Z::.Z::.Z::.Z::.Z::.Z::.Z::.Z::.Z::.Z::.Z::.Z::.Z::.Z::.Z::.Z::.Z::.Z::.Z::.Z::.Z::.Z::.Z::.Z::.Z::.Z::.Z::.Z::.Z::.Z::.Z::.Z::.Z::.Z::.Z::.Z::.Z::.Z::.Z::.Z::.Z::.Z::.Z::.Z::.Z::.Z::.Z::.Z::.Z::.Z::.Z::.Z::.Z::.Z::.Z::.Z::.Z::.Z::.Z::.Z::.Z::.Z::.Z::.Z::.Z::.Z::.Z::.Z::.Z::.Z::.Z::.Z::.Z::.Z::.Z::.Z::.Z::.Z::.Z::.Z::.Z::.Z::.Z::.Z::.Z::.Z::.Z::.Z::.Z::.Z::.Z::.Z::.Z::.Z::.Z::.Z::.Z::.Z::.Z::.Z::.Z::.Z::.Z::.Z::.Z::.Z::.Z::.Z::.Z::.Z::.Z::.Z::.Z::.Z::.Z::.Z::.Z::.Z::.Z::.Z::.Z::.Z::.Z::.Z::.Z::.Z::.Z::.Z::.Z::.Z::.Z::.Z::.Z::.Z::.Z::.Z::.Z::.Z::.Z::.Z::.Z::.Z::.Z::.Z::.Z::.Z::.Z::.Z::.Z::.Z::.Z::.Z::.Z::.Z::.Z::.Z::.Z::.Z::.Z::.Z::.Z::.Z::.Z::.Z::.Z::.Z::.Z::.Z::.Z::.Z::[]) (by simp[Tryz.f3]<;>exact rfl) ?_ hfz hargs hrel hlo hargs'
 refine wb_ T (g:=?_)
 apply TO.cal (wn T) rfl Ep Spec.awake rfl rfl rfl
 repeat exact sd T
 refine wa_ T (g:=?_)
 apply TO.pop1 (wn T) (cN rfl)
 repeat exact sd T
 refine wa_ T (g:=?_)
 obtain⟨v5,h1,hr⟩:=bs hr
 apply TO.cal (wn T) rfl Ei (Spec.ov (lA h1) (by decide)) rfl rfl rfl
 repeat exact sd T
 refine wa_ T (g:=?_)
 apply TO.pop1 (wn T) (cN rfl)
 repeat exact sd T
 refine wa_ T (g:=?_)
 rcases ifs hr with⟨h2,hr⟩|⟨h2,hr⟩
 ·have T:=an h2 T
  refine wc_ T (g:=?_)
  rcases ifs hr with⟨h3,hr⟩|⟨h3,hr⟩
  ·have T:=an h3 T
   refine wa_ T (g:=?_)
   exact lv T hr
  ·have T:=an h3 T
   refine wa_ T (g:=?_)
   obtain⟨⟨v6,v7⟩,h4,hr⟩:=bs hr
   try dsimp only at hr
   apply TO.cal (wn T) rfl Eo (Spec.ov (jT h4) (by decide)) rfl rfl rfl
   repeat exact sd T
   refine wa_ T (g:=?_)
   rcases ifs hr with⟨h5,hr⟩|⟨h5,hr⟩
   ·have T:=an h5 T
    refine wa_ T (g:=?_)
    exact lv T hr
   ·have T:=an h5 T
    refine wc_ T (g:=?_)
    obtain⟨⟨v8,v9,v10⟩,h6,hr⟩:=bs hr
    try dsimp only at hr
    have T:=an (gx e_iLi_i h6) T
    refine wA T (g:=?_)
    obtain⟨v11,h7,hr⟩:=bs hr
    apply TO.cal (wn T) rfl lF (Spec.ov (aK h7) (by decide)) rfl rfl rfl
    repeat exact sd T
    refine wa_ T (g:=?_)
    obtain⟨⟨v12,v13⟩,h8,hr⟩:=bs hr
    try dsimp only at hr
    apply TO.lok (wn T) rfl En (Spec.ov (lB h8) (by decide)) (vw T) rfl rfl (by simp[iQ,cl,e_i,e_iLi_i])
    repeat exact sd T
    refine wa_ T (g:=?_)
    obtain⟨v14,h9,hr⟩:=bs hr
    apply TD.cal (wn T) rfl lF (Spec.ov (aK h9) (by decide)) rfl rfl rfl
    repeat exact sd T
    refine wI T (g:=?_)
    obtain⟨v15,h10,hr⟩:=bs hr
    apply TD.cal (wn T) rfl lW (Spec.ov (dD h10) (by decide)) rfl rfl rfl
    repeat exact sd T
    refine wa_ T (g:=?_)
    obtain⟨⟨v16,v17⟩,h11,hr⟩:=bs hr
    try dsimp only at hr
    apply TD.lok (wn T) rfl mC (Spec.ov (aU h11) (by decide)) (vw T) rfl rfl (by simp[iQ,cl,e_i,e_iLi_i])
    repeat exact sd T
    refine wa_ T (g:=?_)
    rcases ifs hr with⟨h12,hr⟩|⟨h12,hr⟩
    ·have T:=an h12 T
     refine wa_ T (g:=?_)
     exact lv T hr
    ·have T:=an h12 T
     refine wA T (g:=?_)
     rcases ifs hr with⟨h13,hr⟩|⟨h13,hr⟩
     ·have T:=an h13 T
      refine wa_ T (g:=?_)
      exact lv T hr
     ·have T:=an h13 T
      refine wa_ T (g:=?_)
      rcases ifs hr with⟨h14,hr⟩|⟨h14,hr⟩
      ·have T:=an h14 T
       refine wa_ T (g:=?_)
       exact lv T hr
      ·have T:=an h14 T
       refine wA T (g:=?_)
       obtain⟨v18,h15,hr⟩:=bs hr
       apply TO.lok (wn T) rfl yV (Spec.ov (kH h15) (by decide)) (vw T) rfl rfl (by simp[iQ,cl,e_i,e_iLi_i])
       repeat exact sd T
       refine wa_ T (g:=?_)
       apply TO.pop1 (wn T) (cN rfl)
       repeat exact sd T
       refine wa_ T (g:=?_)
       rcases ifs hr with⟨h16,hr⟩|⟨h16,hr⟩
       ·have T:=an h16 T
        refine wc_ T (g:=?_)
        obtain⟨v19,h17,hr⟩:=bs hr
        apply TD.sb e_iLi_i h17 (wn T) rfl rfl rfl so22 ok30 cs30 (by first|exact .inl ⟨rfl,rfl⟩|exact .inr ⟨_,rfl⟩) (by first|exact .inl ⟨rfl,rfl⟩|exact .inr ⟨_,rfl⟩)
        repeat exact sd T
        refine wa_ T (g:=?_)
        obtain⟨v20,h18,hr⟩:=bs hr
        apply TD.cal (wn T) rfl lF (Spec.ov (aK h18) (by decide)) rfl rfl rfl
        repeat exact sd T
        refine wA T (g:=?_)
        obtain⟨⟨v21,v22⟩,h19,hr⟩:=bs hr
        try dsimp only at hr
        apply TD.lok (wn T) rfl mC (Spec.ov (aU h19) (by decide)) (vw T) rfl rfl (by simp[iQ,cl,e_i,e_iLi_i])
        repeat exact sd T
        refine wa_ T (g:=?_)
        obtain⟨v23,h20,hr⟩:=bs hr
        apply TD.cal (wn T) rfl lF (Spec.ov (aK h20) (by decide)) rfl rfl rfl
        repeat exact sd T
        refine wA T (g:=?_)
        obtain⟨⟨v24,v25⟩,h21,hr⟩:=bs hr
        try dsimp only at hr
        apply TD.lok (wn T) rfl mC (Spec.ov (aU h21) (by decide)) (vw T) rfl rfl (by simp[iQ,cl,e_i,e_iLi_i])
        repeat exact sd T
        refine wa_ T (g:=?_)
        rcases ifs hr with⟨h22,hr⟩|⟨h22,hr⟩
        ·have T:=an h22 T
         refine wa_ T (g:=?_)
         exact lv T hr
        ·have T:=an h22 T
         refine wa_ T (g:=?_)
         rcases ifs hr with⟨h23,hr⟩|⟨h23,hr⟩
         ·have T:=an h23 T
          refine wa_ T (g:=?_)
          exact lv T hr
         ·have T:=an h23 T
          refine wC T (g:=?_)
          rcases ifs hr with⟨h24,hr⟩|⟨h24,hr⟩
          ·have T:=an h24 T
           refine wa_ T (g:=?_)
           exact lv T hr
          ·have T:=an h24 T
           refine wc_ T (g:=?_)
           rcases ifs hr with⟨h25,hr⟩|⟨h25,hr⟩
           ·have T:=an h25 T
            refine wA T (g:=?_)
            rcases ifs hr with⟨h26,hr⟩|⟨h26,hr⟩
            ·have T:=an h26 T
             refine wa_ T (g:=?_)
             obtain⟨v26,h27,hr⟩:=bs hr
             apply TO.lok (wn T) rfl yV (Spec.ov (kH h27) (by decide)) (vw T) rfl rfl (by simp[iQ,cl,e_i,e_iLi_i])
             repeat exact sd T
             refine wa_ T (g:=?_)
             apply TO.pop1 (wn T) (cN rfl)
             repeat exact sd T
             refine wa_ T (g:=?_)
             rcases ifs hr with⟨h28,hr⟩|⟨h28,hr⟩
             ·have T:=an h28 T
              refine wI T (g:=?_)
              obtain⟨v27,h29,hr⟩:=bs hr
              apply TO.cal (wn T) rfl lW (Spec.ov (dD h29) (by decide)) rfl rfl rfl
              repeat exact sd T
              refine wI T (g:=?_)
              obtain⟨v28,h30,hr⟩:=bs hr
              apply TO.cal (wn T) rfl lW (Spec.ov (dD h30) (by decide)) rfl rfl rfl
              repeat exact sd T
              refine wa_ T (g:=?_)
              obtain⟨v29,h31,hr⟩:=bs hr
              apply TD.cal (wn T) rfl lF (Spec.ov (aK h31) (by decide)) rfl rfl rfl
              repeat exact sd T
              refine wA T (g:=?_)
              obtain⟨⟨v30,v31⟩,h32,hr⟩:=bs hr
              try dsimp only at hr
              apply TD.lok (wn T) rfl mC (Spec.ov (aU h32) (by decide)) (vw T) rfl rfl (by simp[iQ,cl,e_i,e_iLi_i])
              repeat exact sd T
              refine wa_ T (g:=?_)
              obtain⟨v32,h33,hr⟩:=bs hr
              apply TD.cal (wn T) rfl lF (Spec.ov (aK h33) (by decide)) rfl rfl rfl
              repeat exact sd T
              refine wA T (g:=?_)
              obtain⟨⟨v33,v34⟩,h34,hr⟩:=bs hr
              try dsimp only at hr
              apply TD.lok (wn T) rfl mC (Spec.ov (aU h34) (by decide)) (vw T) rfl rfl (by simp[iQ,cl,e_i,e_iLi_i])
              repeat exact sd T
              refine wa_ T (g:=?_)
              rcases ifs hr with⟨h35,hr⟩|⟨h35,hr⟩
              ·have T:=an h35 T
               refine wa_ T (g:=?_)
               exact lv T hr
              ·have T:=an h35 T
               refine wa_ T (g:=?_)
               rcases ifs hr with⟨h36,hr⟩|⟨h36,hr⟩
               ·have T:=an h36 T
                refine wa_ T (g:=?_)
                exact lv T hr
               ·have T:=an h36 T
                refine wc_ T (g:=?_)
                rcases ifs hr with⟨h37,hr⟩|⟨h37,hr⟩
                ·have T:=an h37 T
                 refine wa_ T (g:=?_)
                 exact lv T hr
                ·have T:=an h37 T
                 refine wc_ T (g:=?_)
                 rcases ifs hr with⟨h38,hr⟩|⟨h38,hr⟩
                 ·have T:=an h38 T
                  refine wa_ T (g:=?_)
                  exact lv T hr
                 ·have T:=an h38 T
                  refine wa_ T (g:=?_)
                  obtain⟨v48,h59,hr⟩:=bs hr
                  refine TX.loopE (step:=bS v9 v24 v30 v33) (x:=0) h59 (fun v35=>⟨.Z::.Z::.Z::.Z::.Z::.Z::.Z::.lptr 0 0 0::.Z::.Z::.Z::.Z::.Z::.Z::.lsl 1 0 v24.length::.Z::.Z::.Z::.lsl 2 0 v30.length::.Z::.lsl 3 0 v33.length::.Z::.v (.int .i64 v35)::.Z::.Z::.Z::.Z::.Z::.Z::.Z::.Z::.Z::.Z::.Z::.Z::.Z::.Z::.Z::.Z::.Z::.Z::.Z::.Z::.Z::.Z::.Z::.Z::.Z::.Z::.Z::.Z::.Z::.Z::.Z::.Z::.Z::.Z::.Z::.Z::.Z::.Z::.Z::.Z::.Z::.Z::.Z::.Z::.Z::.Z::.Z::.Z::.Z::.Z::.Z::.Z::.Z::.Z::.Z::.Z::.Z::.Z::.Z::.Z::.Z::.Z::.Z::.Z::.Z::.Z::.Z::.Z::.Z::.Z::.Z::.Z::.Z::.Z::.Z::.Z::.Z::.Z::.Z::.Z::.Z::.Z::.Z::.Z::.Z::.Z::.Z::.Z::.Z::.Z::.Z::.Z::.Z::.Z::.Z::.Z::.Z::.Z::.Z::.Z::.Z::.Z::.Z::.Z::.Z::.Z::.Z::.Z::.Z::.Z::.Z::.Z::.Z::.Z::.Z::.Z::.Z::.Z::.Z::.Z::.Z::.Z::.Z::.Z::.Z::.Z::.Z::.Z::.Z::.Z::.Z::.Z::.Z::.Z::.Z::.Z::.Z::.Z::.Z::.Z::.Z::.Z::.Z::.Z::.Z::.Z::.Z::.Z::.Z::.Z::.Z::.Z::.Z::.Z::.Z::.Z::.Z::.Z::.Z::.Z::.Z::.Z::.Z::.Z::.Z::.Z::.Z::.Z::.Z::.Z::.Z::.Z::.Z::.Z::.Z::.Z::.Z::.Z::.Z::.Z::.Z::.Z::.Z::.Z::.Z::.Z::.Z::.Z::.Z::.Z::.Z::.Z::.Z::.Z::.Z::.Z::.Z::.Z::.Z::.Z::.Z::.Z::.Z::.Z::.Z::.Z::.Z::.Z::.Z::.Z::.Z::.Z::.Z::.Z::[],[.var [.v (.int .i64 v8),.list 1 (v9.map e_i),.v (.int .i64 v10)],.rows 1 (v24.map e_i),.rows 1 (v30.map e_i),.rows 1 (v33.map e_i)]⟩) (fun e=>match e with|(.inl _)=>(.ret,⟨.Z::.Z::.Z::.Z::.v (.bool false)::.Z::.Z::.Z::.Z::.Z::.Z::.Z::.Z::.Z::.Z::.Z::.Z::.Z::.Z::.Z::.Z::.Z::.Z::.Z::.Z::.Z::.Z::.Z::.Z::.Z::.Z::.Z::.Z::.Z::.Z::.Z::.Z::.Z::.Z::.Z::.Z::.Z::.Z::.Z::.Z::.Z::.Z::.Z::.Z::.Z::.Z::.Z::.Z::.Z::.Z::.Z::.Z::.Z::.Z::.Z::.Z::.Z::.Z::.Z::.Z::.Z::.Z::.Z::.Z::.Z::.Z::.Z::.Z::.Z::.Z::.Z::.Z::.Z::.Z::.Z::.Z::.Z::.Z::.Z::.Z::.Z::.Z::.Z::.Z::.Z::.Z::.Z::.Z::.Z::.Z::.Z::.Z::.Z::.Z::.Z::.Z::.Z::.Z::.Z::.Z::.Z::.Z::.Z::.Z::.Z::.Z::.Z::.Z::.Z::.Z::.Z::.Z::.Z::.Z::.Z::.Z::.Z::.Z::.Z::.Z::.Z::.Z::.Z::.Z::.Z::.Z::.Z::.Z::.Z::.Z::.Z::.Z::.Z::.Z::.Z::.Z::.Z::.Z::.Z::.Z::.Z::.Z::.Z::.Z::.Z::.Z::.Z::.Z::.Z::.Z::.Z::.Z::.Z::.Z::.Z::.Z::.Z::.Z::.Z::.Z::.Z::.Z::.Z::.Z::.Z::.Z::.Z::.Z::.Z::.Z::.Z::.Z::.Z::.Z::.Z::.Z::.Z::.Z::.Z::.Z::.Z::.Z::.Z::.Z::.Z::.Z::.Z::.Z::.Z::.Z::.Z::.Z::.Z::.Z::.Z::.Z::.Z::.Z::.Z::.Z::.Z::.Z::.Z::.Z::.Z::.Z::.Z::.Z::.Z::.Z::.Z::.Z::.Z::.Z::.Z::.Z::.Z::.Z::.Z::.Z::.Z::.Z::.Z::.Z::.Z::.Z::.Z::.Z::.Z::.Z::.Z::.Z::[],[]⟩)|(.inr _)=>(.exit 0,⟨.Z::.Z::.Z::.Z::.Z::.Z::.Z::.Z::.Z::.Z::.Z::.Z::.Z::.Z::.Z::.Z::.Z::.Z::.Z::.Z::.Z::.Z::.Z::.Z::.Z::.Z::.Z::.Z::.Z::.Z::.Z::.Z::.Z::.Z::.Z::.Z::.Z::.Z::.Z::.Z::.Z::.Z::.Z::.Z::.Z::.Z::.Z::.Z::.Z::.Z::.Z::.Z::.Z::.Z::.Z::.Z::.Z::.Z::.Z::.Z::.Z::.Z::.Z::.Z::.Z::.Z::.Z::.Z::.Z::.Z::.Z::.Z::.Z::.Z::.Z::.Z::.Z::.Z::.Z::.Z::.Z::.Z::.Z::.Z::.Z::.Z::.Z::.Z::.Z::.Z::.Z::.Z::.Z::.Z::.Z::.Z::.Z::.Z::.Z::.Z::.Z::.Z::.Z::.Z::.Z::.Z::.Z::.Z::.Z::.Z::.Z::.Z::.Z::.Z::.Z::.Z::.Z::.Z::.Z::.Z::.Z::.Z::.Z::.Z::.Z::.Z::.Z::.Z::.Z::.Z::.Z::.Z::.Z::.Z::.Z::.Z::.Z::.Z::.Z::.Z::.Z::.Z::.Z::.Z::.Z::.Z::.Z::.Z::.Z::.Z::.Z::.Z::.Z::.Z::.Z::.Z::.Z::.Z::.Z::.Z::.Z::.Z::.Z::.Z::.Z::.Z::.Z::.Z::.Z::.Z::.Z::.Z::.Z::.Z::.Z::.Z::.Z::.Z::.Z::.Z::.Z::.Z::.Z::.Z::.Z::.Z::.Z::.Z::.Z::.Z::.Z::.Z::.Z::.Z::.Z::.Z::.Z::.Z::.Z::.Z::.Z::.Z::.Z::.Z::.Z::.Z::.Z::.Z::.Z::.Z::.Z::.Z::.Z::.Z::.Z::.Z::.Z::.Z::.Z::.Z::.Z::.Z::.Z::.Z::.Z::.Z::.Z::.Z::.Z::.Z::.Z::.Z::.Z::.Z::.Z::.Z::.Z::[],[]⟩)) ?_ ?_ ?_ ?_
                  ·rintro v35 v0 hr
                   dsimp only[bS] at hr
                   try dsimp only
                   refine wc_ T (g:=?_)
                   rcases ifs hr with⟨h49,hr⟩|⟨h49,hr⟩
                   ·have T:=an h49 T
                    refine wA T (g:=?_)
                    obtain⟨v42,h50,hr⟩:=bs hr
                    have T:=an (gx e_i h50) T
                    refine wA T (g:=?_)
                    obtain⟨v43,h51,hr⟩:=bs hr
                    have T:=an (gx e_i h51) T
                    refine wA T (g:=?_)
                    rcases ifs hr with⟨h52,hr⟩|⟨h52,hr⟩
                    ·have T:=an h52 T
                     refine wa_ T (g:=?_)
                     obtain⟨v44,h53,hr⟩:=bs hr
                     have T:=an (gx e_i h53) T
                     refine wA T (g:=?_)
                     obtain⟨v45,h54,hr⟩:=bs hr
                     have T:=an (gx e_i h54) T
                     refine wA T (g:=?_)
                     rcases ifs hr with⟨h55,hr⟩|⟨h55,hr⟩
                     ·have T:=an h55 T
                      refine wa_ T (g:=?_)
                      cases hr
                      refine⟨rfl,?_⟩
                      exact wk_ T [] rfl .nil
                     ·have T:=an h55 T
                      refine wa_ T (g:=?_)
                      apply TD.pop1 (wn T) (cN rfl)
                      repeat exact sd T
                      refine wa_ T (g:=?_)
                      cases hr
                      refine⟨rfl,?_⟩
                      exact wk_ T [some 0,some 1,some 2,some 3] rfl (rv (.rows (.rows (.rows .nil rfl rfl) rfl rfl) rfl rfl) rfl)
                    ·have T:=an h52 T
                     refine wa_ T (g:=?_)
                     apply TD.pop1 (wn T) (cN rfl)
                     repeat exact sd T
                     refine wa_ T (g:=?_)
                     obtain⟨v46,h56,hr⟩:=bs hr
                     have T:=an (gx e_i h56) T
                     refine wA T (g:=?_)
                     obtain⟨v47,h57,hr⟩:=bs hr
                     have T:=an (gx e_i h57) T
                     refine wA T (g:=?_)
                     rcases ifs hr with⟨h58,hr⟩|⟨h58,hr⟩
                     ·have T:=an h58 T
                      refine wa_ T (g:=?_)
                      cases hr
                      refine⟨rfl,?_⟩
                      exact wk_ T [] rfl .nil
                     ·have T:=an h58 T
                      refine wa_ T (g:=?_)
                      cases hr
                      refine⟨rfl,?_⟩
                      exact wk_ T [some 0,some 1,some 2,some 3] rfl (rv (.rows (.rows (.rows .nil rfl rfl) rfl rfl) rfl rfl) rfl)
                   ·have T:=an h49 T
                    refine wa_ T (g:=?_)
                    cases hr
                    refine⟨rfl,?_⟩
                    exact wk_ T [] rfl .nil
                  ·intro e h;rcases e with _|e<;>cases h
                  ·try dsimp only
                   rcases v48 with _|_
                   ·try dsimp only at hr
                    try dsimp only
                    refine wa_ T (g:=?_)
                    exact lv T hr
                   ·try dsimp only at hr
                    try dsimp only
                    refine wa_ T (g:=?_)
                    exact lv T hr
                  ·try dsimp only
                   exact wk_ T [some 0,some 7,some 9,some 11] rfl (rv (.rows (.rows (.rows .nil rfl rfl) rfl rfl) rfl rfl) rfl)
             ·have T:=an h28 T
              refine wa_ T (g:=?_)
              exact lv T hr
            ·have T:=an h26 T
             refine wI T (g:=?_)
             obtain⟨v49,h60,hr⟩:=bs hr
             apply TO.cal (wn T) rfl lW (Spec.ov (dD h60) (by decide)) rfl rfl rfl
             repeat exact sd T
             refine wI T (g:=?_)
             obtain⟨v50,h61,hr⟩:=bs hr
             apply TO.cal (wn T) rfl lW (Spec.ov (dD h61) (by decide)) rfl rfl rfl
             repeat exact sd T
             refine wa_ T (g:=?_)
             obtain⟨v51,h62,hr⟩:=bs hr
             apply TD.cal (wn T) rfl lF (Spec.ov (aK h62) (by decide)) rfl rfl rfl
             repeat exact sd T
             refine wA T (g:=?_)
             obtain⟨⟨v52,v53⟩,h63,hr⟩:=bs hr
             try dsimp only at hr
             apply TD.lok (wn T) rfl mC (Spec.ov (aU h63) (by decide)) (vw T) rfl rfl (by simp[iQ,cl,e_i,e_iLi_i])
             repeat exact sd T
             refine wa_ T (g:=?_)
             obtain⟨v54,h64,hr⟩:=bs hr
             apply TD.cal (wn T) rfl lF (Spec.ov (aK h64) (by decide)) rfl rfl rfl
             repeat exact sd T
             refine wA T (g:=?_)
             obtain⟨⟨v55,v56⟩,h65,hr⟩:=bs hr
             try dsimp only at hr
             apply TD.lok (wn T) rfl mC (Spec.ov (aU h65) (by decide)) (vw T) rfl rfl (by simp[iQ,cl,e_i,e_iLi_i])
             repeat exact sd T
             refine wa_ T (g:=?_)
             rcases ifs hr with⟨h66,hr⟩|⟨h66,hr⟩
             ·have T:=an h66 T
              refine wa_ T (g:=?_)
              exact lv T hr
             ·have T:=an h66 T
              refine wa_ T (g:=?_)
              rcases ifs hr with⟨h67,hr⟩|⟨h67,hr⟩
              ·have T:=an h67 T
               refine wa_ T (g:=?_)
               exact lv T hr
              ·have T:=an h67 T
               refine wc_ T (g:=?_)
               rcases ifs hr with⟨h68,hr⟩|⟨h68,hr⟩
               ·have T:=an h68 T
                refine wa_ T (g:=?_)
                exact lv T hr
               ·have T:=an h68 T
                refine wc_ T (g:=?_)
                rcases ifs hr with⟨h69,hr⟩|⟨h69,hr⟩
                ·have T:=an h69 T
                 refine wa_ T (g:=?_)
                 exact lv T hr
                ·have T:=an h69 T
                 refine wa_ T (g:=?_)
                 obtain⟨v70,h90,hr⟩:=bs hr
                 refine TX.loopE (step:=bX v9 v24 v52 v55) (x:=0) h90 (fun v57=>⟨.Z::.Z::.Z::.Z::.Z::.Z::.Z::.lptr 0 0 0::.Z::.Z::.Z::.Z::.Z::.Z::.lsl 1 0 v24.length::.Z::.Z::.Z::.lsl 2 0 v52.length::.Z::.lsl 3 0 v55.length::.Z::.v (.int .i64 v57)::.Z::.Z::.Z::.Z::.Z::.Z::.Z::.Z::.Z::.Z::.Z::.Z::.Z::.Z::.Z::.Z::.Z::.Z::.Z::.Z::.Z::.Z::.Z::.Z::.Z::.Z::.Z::.Z::.Z::.Z::.Z::.Z::.Z::.Z::.Z::.Z::.Z::.Z::.Z::.Z::.Z::.Z::.Z::.Z::.Z::.Z::.Z::.Z::.Z::.Z::.Z::.Z::.Z::.Z::.Z::.Z::.Z::.Z::.Z::.Z::.Z::.Z::.Z::.Z::.Z::.Z::.Z::.Z::.Z::.Z::.Z::.Z::.Z::.Z::.Z::.Z::.Z::.Z::.Z::.Z::.Z::.Z::.Z::.Z::.Z::.Z::.Z::.Z::.Z::.Z::.Z::.Z::.Z::.Z::.Z::.Z::.Z::.Z::.Z::.Z::.Z::.Z::.Z::.Z::.Z::.Z::.Z::.Z::.Z::.Z::.Z::.Z::.Z::.Z::.Z::.Z::.Z::.Z::.Z::.Z::.Z::.Z::.Z::.Z::.Z::.Z::.Z::.Z::.Z::.Z::.Z::.Z::.Z::.Z::.Z::.Z::.Z::.Z::.Z::.Z::.Z::.Z::.Z::.Z::.Z::.Z::.Z::.Z::.Z::.Z::.Z::.Z::.Z::.Z::.Z::.Z::.Z::.Z::.Z::.Z::.Z::.Z::.Z::.Z::.Z::.Z::.Z::.Z::.Z::.Z::.Z::.Z::.Z::.Z::.Z::.Z::.Z::.Z::.Z::.Z::.Z::.Z::.Z::.Z::.Z::.Z::.Z::.Z::.Z::.Z::.Z::.Z::.Z::.Z::.Z::.Z::.Z::.Z::.Z::.Z::.Z::.Z::.Z::.Z::.Z::.Z::.Z::.Z::.Z::.Z::.Z::.Z::.Z::.Z::[],[.var [.v (.int .i64 v8),.list 1 (v9.map e_i),.v (.int .i64 v10)],.rows 1 (v24.map e_i),.rows 1 (v52.map e_i),.rows 1 (v55.map e_i)]⟩) (fun e=>match e with|(.inl _)=>(.ret,⟨.Z::.Z::.Z::.Z::.v (.bool false)::.Z::.Z::.Z::.Z::.Z::.Z::.Z::.Z::.Z::.Z::.Z::.Z::.Z::.Z::.Z::.Z::.Z::.Z::.Z::.Z::.Z::.Z::.Z::.Z::.Z::.Z::.Z::.Z::.Z::.Z::.Z::.Z::.Z::.Z::.Z::.Z::.Z::.Z::.Z::.Z::.Z::.Z::.Z::.Z::.Z::.Z::.Z::.Z::.Z::.Z::.Z::.Z::.Z::.Z::.Z::.Z::.Z::.Z::.Z::.Z::.Z::.Z::.Z::.Z::.Z::.Z::.Z::.Z::.Z::.Z::.Z::.Z::.Z::.Z::.Z::.Z::.Z::.Z::.Z::.Z::.Z::.Z::.Z::.Z::.Z::.Z::.Z::.Z::.Z::.Z::.Z::.Z::.Z::.Z::.Z::.Z::.Z::.Z::.Z::.Z::.Z::.Z::.Z::.Z::.Z::.Z::.Z::.Z::.Z::.Z::.Z::.Z::.Z::.Z::.Z::.Z::.Z::.Z::.Z::.Z::.Z::.Z::.Z::.Z::.Z::.Z::.Z::.Z::.Z::.Z::.Z::.Z::.Z::.Z::.Z::.Z::.Z::.Z::.Z::.Z::.Z::.Z::.Z::.Z::.Z::.Z::.Z::.Z::.Z::.Z::.Z::.Z::.Z::.Z::.Z::.Z::.Z::.Z::.Z::.Z::.Z::.Z::.Z::.Z::.Z::.Z::.Z::.Z::.Z::.Z::.Z::.Z::.Z::.Z::.Z::.Z::.Z::.Z::.Z::.Z::.Z::.Z::.Z::.Z::.Z::.Z::.Z::.Z::.Z::.Z::.Z::.Z::.Z::.Z::.Z::.Z::.Z::.Z::.Z::.Z::.Z::.Z::.Z::.Z::.Z::.Z::.Z::.Z::.Z::.Z::.Z::.Z::.Z::.Z::.Z::.Z::.Z::.Z::.Z::.Z::.Z::.Z::.Z::.Z::.Z::.Z::.Z::.Z::.Z::.Z::.Z::.Z::[],[]⟩)|(.inr _)=>(.exit 0,⟨.Z::.Z::.Z::.Z::.Z::.Z::.Z::.Z::.Z::.Z::.Z::.Z::.Z::.Z::.Z::.Z::.Z::.Z::.Z::.Z::.Z::.Z::.Z::.Z::.Z::.Z::.Z::.Z::.Z::.Z::.Z::.Z::.Z::.Z::.Z::.Z::.Z::.Z::.Z::.Z::.Z::.Z::.Z::.Z::.Z::.Z::.Z::.Z::.Z::.Z::.Z::.Z::.Z::.Z::.Z::.Z::.Z::.Z::.Z::.Z::.Z::.Z::.Z::.Z::.Z::.Z::.Z::.Z::.Z::.Z::.Z::.Z::.Z::.Z::.Z::.Z::.Z::.Z::.Z::.Z::.Z::.Z::.Z::.Z::.Z::.Z::.Z::.Z::.Z::.Z::.Z::.Z::.Z::.Z::.Z::.Z::.Z::.Z::.Z::.Z::.Z::.Z::.Z::.Z::.Z::.Z::.Z::.Z::.Z::.Z::.Z::.Z::.Z::.Z::.Z::.Z::.Z::.Z::.Z::.Z::.Z::.Z::.Z::.Z::.Z::.Z::.Z::.Z::.Z::.Z::.Z::.Z::.Z::.Z::.Z::.Z::.Z::.Z::.Z::.Z::.Z::.Z::.Z::.Z::.Z::.Z::.Z::.Z::.Z::.Z::.Z::.Z::.Z::.Z::.Z::.Z::.Z::.Z::.Z::.Z::.Z::.Z::.Z::.Z::.Z::.Z::.Z::.Z::.Z::.Z::.Z::.Z::.Z::.Z::.Z::.Z::.Z::.Z::.Z::.Z::.Z::.Z::.Z::.Z::.Z::.Z::.Z::.Z::.Z::.Z::.Z::.Z::.Z::.Z::.Z::.Z::.Z::.Z::.Z::.Z::.Z::.Z::.Z::.Z::.Z::.Z::.Z::.Z::.Z::.Z::.Z::.Z::.Z::.Z::.Z::.Z::.Z::.Z::.Z::.Z::.Z::.Z::.Z::.Z::.Z::.Z::.Z::.Z::.Z::.Z::.Z::.Z::.Z::.Z::.Z::.Z::.Z::[],[]⟩)) ?_ ?_ ?_ ?_
                 ·rintro v57 v0 hr
                  dsimp only[bX] at hr
                  try dsimp only
                  refine wc_ T (g:=?_)
                  rcases ifs hr with⟨h80,hr⟩|⟨h80,hr⟩
                  ·have T:=an h80 T
                   refine wA T (g:=?_)
                   obtain⟨v64,h81,hr⟩:=bs hr
                   have T:=an (gx e_i h81) T
                   refine wA T (g:=?_)
                   obtain⟨v65,h82,hr⟩:=bs hr
                   have T:=an (gx e_i h82) T
                   refine wA T (g:=?_)
                   rcases ifs hr with⟨h83,hr⟩|⟨h83,hr⟩
                   ·have T:=an h83 T
                    refine wa_ T (g:=?_)
                    obtain⟨v66,h84,hr⟩:=bs hr
                    have T:=an (gx e_i h84) T
                    refine wA T (g:=?_)
                    obtain⟨v67,h85,hr⟩:=bs hr
                    have T:=an (gx e_i h85) T
                    refine wA T (g:=?_)
                    rcases ifs hr with⟨h86,hr⟩|⟨h86,hr⟩
                    ·have T:=an h86 T
                     refine wa_ T (g:=?_)
                     cases hr
                     refine⟨rfl,?_⟩
                     exact wk_ T [] rfl .nil
                    ·have T:=an h86 T
                     refine wa_ T (g:=?_)
                     apply TD.pop1 (wn T) (cN rfl)
                     repeat exact sd T
                     refine wa_ T (g:=?_)
                     cases hr
                     refine⟨rfl,?_⟩
                     exact wk_ T [some 0,some 1,some 2,some 3] rfl (rv (.rows (.rows (.rows .nil rfl rfl) rfl rfl) rfl rfl) rfl)
                   ·have T:=an h83 T
                    refine wa_ T (g:=?_)
                    apply TD.pop1 (wn T) (cN rfl)
                    repeat exact sd T
                    refine wa_ T (g:=?_)
                    obtain⟨v68,h87,hr⟩:=bs hr
                    have T:=an (gx e_i h87) T
                    refine wA T (g:=?_)
                    obtain⟨v69,h88,hr⟩:=bs hr
                    have T:=an (gx e_i h88) T
                    refine wA T (g:=?_)
                    rcases ifs hr with⟨h89,hr⟩|⟨h89,hr⟩
                    ·have T:=an h89 T
                     refine wa_ T (g:=?_)
                     cases hr
                     refine⟨rfl,?_⟩
                     exact wk_ T [] rfl .nil
                    ·have T:=an h89 T
                     refine wa_ T (g:=?_)
                     cases hr
                     refine⟨rfl,?_⟩
                     exact wk_ T [some 0,some 1,some 2,some 3] rfl (rv (.rows (.rows (.rows .nil rfl rfl) rfl rfl) rfl rfl) rfl)
                  ·have T:=an h80 T
                   refine wa_ T (g:=?_)
                   cases hr
                   refine⟨rfl,?_⟩
                   exact wk_ T [] rfl .nil
                 ·intro e h;rcases e with _|e<;>cases h
                 ·try dsimp only
                  rcases v70 with _|_
                  ·try dsimp only at hr
                   try dsimp only
                   refine wa_ T (g:=?_)
                   exact lv T hr
                  ·try dsimp only at hr
                   try dsimp only
                   refine wa_ T (g:=?_)
                   exact lv T hr
                 ·try dsimp only
                  exact wk_ T [some 0,some 7,some 9,some 11] rfl (rv (.rows (.rows (.rows .nil rfl rfl) rfl rfl) rfl rfl) rfl)
           ·have T:=an h25 T
            refine wI T (g:=?_)
            obtain⟨v71,h91,hr⟩:=bs hr
            apply TO.cal (wn T) rfl lW (Spec.ov (dD h91) (by decide)) rfl rfl rfl
            repeat exact sd T
            refine wI T (g:=?_)
            obtain⟨v72,h92,hr⟩:=bs hr
            apply TO.cal (wn T) rfl lW (Spec.ov (dD h92) (by decide)) rfl rfl rfl
            repeat exact sd T
            refine wa_ T (g:=?_)
            obtain⟨v73,h93,hr⟩:=bs hr
            apply TD.cal (wn T) rfl lF (Spec.ov (aK h93) (by decide)) rfl rfl rfl
            repeat exact sd T
            refine wA T (g:=?_)
            obtain⟨⟨v74,v75⟩,h94,hr⟩:=bs hr
            try dsimp only at hr
            apply TD.lok (wn T) rfl mC (Spec.ov (aU h94) (by decide)) (vw T) rfl rfl (by simp[iQ,cl,e_i,e_iLi_i])
            repeat exact sd T
            refine wa_ T (g:=?_)
            obtain⟨v76,h95,hr⟩:=bs hr
            apply TD.cal (wn T) rfl lF (Spec.ov (aK h95) (by decide)) rfl rfl rfl
            repeat exact sd T
            refine wA T (g:=?_)
            obtain⟨⟨v77,v78⟩,h96,hr⟩:=bs hr
            try dsimp only at hr
            apply TD.lok (wn T) rfl mC (Spec.ov (aU h96) (by decide)) (vw T) rfl rfl (by simp[iQ,cl,e_i,e_iLi_i])
            repeat exact sd T
            refine wa_ T (g:=?_)
            rcases ifs hr with⟨h97,hr⟩|⟨h97,hr⟩
            ·have T:=an h97 T
             refine wa_ T (g:=?_)
             exact lv T hr
            ·have T:=an h97 T
             refine wa_ T (g:=?_)
             rcases ifs hr with⟨h98,hr⟩|⟨h98,hr⟩
             ·have T:=an h98 T
              refine wa_ T (g:=?_)
              exact lv T hr
             ·have T:=an h98 T
              refine wc_ T (g:=?_)
              rcases ifs hr with⟨h99,hr⟩|⟨h99,hr⟩
              ·have T:=an h99 T
               refine wa_ T (g:=?_)
               exact lv T hr
              ·have T:=an h99 T
               refine wc_ T (g:=?_)
               rcases ifs hr with⟨h100,hr⟩|⟨h100,hr⟩
               ·have T:=an h100 T
                refine wa_ T (g:=?_)
                exact lv T hr
               ·have T:=an h100 T
                refine wa_ T (g:=?_)
                obtain⟨v92,h121,hr⟩:=bs hr
                refine TX.loopE (step:=bR v9 v24 v74 v77) (x:=0) h121 (fun v79=>⟨.Z::.Z::.Z::.Z::.Z::.Z::.Z::.lptr 0 0 0::.Z::.Z::.Z::.Z::.Z::.Z::.lsl 1 0 v24.length::.Z::.Z::.Z::.lsl 2 0 v74.length::.Z::.lsl 3 0 v77.length::.Z::.v (.int .i64 v79)::.Z::.Z::.Z::.Z::.Z::.Z::.Z::.Z::.Z::.Z::.Z::.Z::.Z::.Z::.Z::.Z::.Z::.Z::.Z::.Z::.Z::.Z::.Z::.Z::.Z::.Z::.Z::.Z::.Z::.Z::.Z::.Z::.Z::.Z::.Z::.Z::.Z::.Z::.Z::.Z::.Z::.Z::.Z::.Z::.Z::.Z::.Z::.Z::.Z::.Z::.Z::.Z::.Z::.Z::.Z::.Z::.Z::.Z::.Z::.Z::.Z::.Z::.Z::.Z::.Z::.Z::.Z::.Z::.Z::.Z::.Z::.Z::.Z::.Z::.Z::.Z::.Z::.Z::.Z::.Z::.Z::.Z::.Z::.Z::.Z::.Z::.Z::.Z::.Z::.Z::.Z::.Z::.Z::.Z::.Z::.Z::.Z::.Z::.Z::.Z::.Z::.Z::.Z::.Z::.Z::.Z::.Z::.Z::.Z::.Z::.Z::.Z::.Z::.Z::.Z::.Z::.Z::.Z::.Z::.Z::.Z::.Z::.Z::.Z::.Z::.Z::.Z::.Z::.Z::.Z::.Z::.Z::.Z::.Z::.Z::.Z::.Z::.Z::.Z::.Z::.Z::.Z::.Z::.Z::.Z::.Z::.Z::.Z::.Z::.Z::.Z::.Z::.Z::.Z::.Z::.Z::.Z::.Z::.Z::.Z::.Z::.Z::.Z::.Z::.Z::.Z::.Z::.Z::.Z::.Z::.Z::.Z::.Z::.Z::.Z::.Z::.Z::.Z::.Z::.Z::.Z::.Z::.Z::.Z::.Z::.Z::.Z::.Z::.Z::.Z::.Z::.Z::.Z::.Z::.Z::.Z::.Z::.Z::.Z::.Z::.Z::.Z::.Z::.Z::.Z::.Z::.Z::.Z::.Z::.Z::.Z::.Z::.Z::.Z::[],[.var [.v (.int .i64 v8),.list 1 (v9.map e_i),.v (.int .i64 v10)],.rows 1 (v24.map e_i),.rows 1 (v74.map e_i),.rows 1 (v77.map e_i)]⟩) (fun e=>match e with|(.inl _)=>(.ret,⟨.Z::.Z::.Z::.Z::.v (.bool false)::.Z::.Z::.Z::.Z::.Z::.Z::.Z::.Z::.Z::.Z::.Z::.Z::.Z::.Z::.Z::.Z::.Z::.Z::.Z::.Z::.Z::.Z::.Z::.Z::.Z::.Z::.Z::.Z::.Z::.Z::.Z::.Z::.Z::.Z::.Z::.Z::.Z::.Z::.Z::.Z::.Z::.Z::.Z::.Z::.Z::.Z::.Z::.Z::.Z::.Z::.Z::.Z::.Z::.Z::.Z::.Z::.Z::.Z::.Z::.Z::.Z::.Z::.Z::.Z::.Z::.Z::.Z::.Z::.Z::.Z::.Z::.Z::.Z::.Z::.Z::.Z::.Z::.Z::.Z::.Z::.Z::.Z::.Z::.Z::.Z::.Z::.Z::.Z::.Z::.Z::.Z::.Z::.Z::.Z::.Z::.Z::.Z::.Z::.Z::.Z::.Z::.Z::.Z::.Z::.Z::.Z::.Z::.Z::.Z::.Z::.Z::.Z::.Z::.Z::.Z::.Z::.Z::.Z::.Z::.Z::.Z::.Z::.Z::.Z::.Z::.Z::.Z::.Z::.Z::.Z::.Z::.Z::.Z::.Z::.Z::.Z::.Z::.Z::.Z::.Z::.Z::.Z::.Z::.Z::.Z::.Z::.Z::.Z::.Z::.Z::.Z::.Z::.Z::.Z::.Z::.Z::.Z::.Z::.Z::.Z::.Z::.Z::.Z::.Z::.Z::.Z::.Z::.Z::.Z::.Z::.Z::.Z::.Z::.Z::.Z::.Z::.Z::.Z::.Z::.Z::.Z::.Z::.Z::.Z::.Z::.Z::.Z::.Z::.Z::.Z::.Z::.Z::.Z::.Z::.Z::.Z::.Z::.Z::.Z::.Z::.Z::.Z::.Z::.Z::.Z::.Z::.Z::.Z::.Z::.Z::.Z::.Z::.Z::.Z::.Z::.Z::.Z::.Z::.Z::.Z::.Z::.Z::.Z::.Z::.Z::.Z::.Z::.Z::.Z::.Z::.Z::.Z::[],[]⟩)|(.inr _)=>(.exit 0,⟨.Z::.Z::.Z::.Z::.Z::.Z::.Z::.Z::.Z::.Z::.Z::.Z::.Z::.Z::.Z::.Z::.Z::.Z::.Z::.Z::.Z::.Z::.Z::.Z::.Z::.Z::.Z::.Z::.Z::.Z::.Z::.Z::.Z::.Z::.Z::.Z::.Z::.Z::.Z::.Z::.Z::.Z::.Z::.Z::.Z::.Z::.Z::.Z::.Z::.Z::.Z::.Z::.Z::.Z::.Z::.Z::.Z::.Z::.Z::.Z::.Z::.Z::.Z::.Z::.Z::.Z::.Z::.Z::.Z::.Z::.Z::.Z::.Z::.Z::.Z::.Z::.Z::.Z::.Z::.Z::.Z::.Z::.Z::.Z::.Z::.Z::.Z::.Z::.Z::.Z::.Z::.Z::.Z::.Z::.Z::.Z::.Z::.Z::.Z::.Z::.Z::.Z::.Z::.Z::.Z::.Z::.Z::.Z::.Z::.Z::.Z::.Z::.Z::.Z::.Z::.Z::.Z::.Z::.Z::.Z::.Z::.Z::.Z::.Z::.Z::.Z::.Z::.Z::.Z::.Z::.Z::.Z::.Z::.Z::.Z::.Z::.Z::.Z::.Z::.Z::.Z::.Z::.Z::.Z::.Z::.Z::.Z::.Z::.Z::.Z::.Z::.Z::.Z::.Z::.Z::.Z::.Z::.Z::.Z::.Z::.Z::.Z::.Z::.Z::.Z::.Z::.Z::.Z::.Z::.Z::.Z::.Z::.Z::.Z::.Z::.Z::.Z::.Z::.Z::.Z::.Z::.Z::.Z::.Z::.Z::.Z::.Z::.Z::.Z::.Z::.Z::.Z::.Z::.Z::.Z::.Z::.Z::.Z::.Z::.Z::.Z::.Z::.Z::.Z::.Z::.Z::.Z::.Z::.Z::.Z::.Z::.Z::.Z::.Z::.Z::.Z::.Z::.Z::.Z::.Z::.Z::.Z::.Z::.Z::.Z::.Z::.Z::.Z::.Z::.Z::.Z::.Z::.Z::.Z::.Z::.Z::.Z::[],[]⟩)) ?_ ?_ ?_ ?_
                ·rintro v79 v0 hr
                 dsimp only[bR] at hr
                 try dsimp only
                 refine wc_ T (g:=?_)
                 rcases ifs hr with⟨h111,hr⟩|⟨h111,hr⟩
                 ·have T:=an h111 T
                  refine wA T (g:=?_)
                  obtain⟨v86,h112,hr⟩:=bs hr
                  have T:=an (gx e_i h112) T
                  refine wA T (g:=?_)
                  obtain⟨v87,h113,hr⟩:=bs hr
                  have T:=an (gx e_i h113) T
                  refine wA T (g:=?_)
                  rcases ifs hr with⟨h114,hr⟩|⟨h114,hr⟩
                  ·have T:=an h114 T
                   refine wa_ T (g:=?_)
                   obtain⟨v88,h115,hr⟩:=bs hr
                   have T:=an (gx e_i h115) T
                   refine wA T (g:=?_)
                   obtain⟨v89,h116,hr⟩:=bs hr
                   have T:=an (gx e_i h116) T
                   refine wA T (g:=?_)
                   rcases ifs hr with⟨h117,hr⟩|⟨h117,hr⟩
                   ·have T:=an h117 T
                    refine wa_ T (g:=?_)
                    cases hr
                    refine⟨rfl,?_⟩
                    exact wk_ T [] rfl .nil
                   ·have T:=an h117 T
                    refine wa_ T (g:=?_)
                    apply TD.pop1 (wn T) (cN rfl)
                    repeat exact sd T
                    refine wa_ T (g:=?_)
                    cases hr
                    refine⟨rfl,?_⟩
                    exact wk_ T [some 0,some 1,some 2,some 3] rfl (rv (.rows (.rows (.rows .nil rfl rfl) rfl rfl) rfl rfl) rfl)
                  ·have T:=an h114 T
                   refine wa_ T (g:=?_)
                   apply TD.pop1 (wn T) (cN rfl)
                   repeat exact sd T
                   refine wa_ T (g:=?_)
                   obtain⟨v90,h118,hr⟩:=bs hr
                   have T:=an (gx e_i h118) T
                   refine wA T (g:=?_)
                   obtain⟨v91,h119,hr⟩:=bs hr
                   have T:=an (gx e_i h119) T
                   refine wA T (g:=?_)
                   rcases ifs hr with⟨h120,hr⟩|⟨h120,hr⟩
                   ·have T:=an h120 T
                    refine wa_ T (g:=?_)
                    cases hr
                    refine⟨rfl,?_⟩
                    exact wk_ T [] rfl .nil
                   ·have T:=an h120 T
                    refine wa_ T (g:=?_)
                    cases hr
                    refine⟨rfl,?_⟩
                    exact wk_ T [some 0,some 1,some 2,some 3] rfl (rv (.rows (.rows (.rows .nil rfl rfl) rfl rfl) rfl rfl) rfl)
                 ·have T:=an h111 T
                  refine wa_ T (g:=?_)
                  cases hr
                  refine⟨rfl,?_⟩
                  exact wk_ T [] rfl .nil
                ·intro e h;rcases e with _|e<;>cases h
                ·try dsimp only
                 rcases v92 with _|_
                 ·try dsimp only at hr
                  try dsimp only
                  refine wa_ T (g:=?_)
                  exact lv T hr
                 ·try dsimp only at hr
                  try dsimp only
                  refine wa_ T (g:=?_)
                  exact lv T hr
                ·try dsimp only
                 exact wk_ T [some 0,some 7,some 9,some 11] rfl (rv (.rows (.rows (.rows .nil rfl rfl) rfl rfl) rfl rfl) rfl)
       ·have T:=an h16 T
        refine wa_ T (g:=?_)
        exact lv T hr
 ·have T:=an h2 T
  refine wa_ T (g:=?_)
  exact lv T hr
end Go.Rex
