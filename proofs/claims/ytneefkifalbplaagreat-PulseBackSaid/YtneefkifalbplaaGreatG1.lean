/- Proofs that the program's functions do what these plain functions say. -/
import Derived.Test.YtneefkifalbplaaGreatGB
import Derived.Test.YtneefkifalbplaaGreatS
set_option linter.unusedSimpArgs false
set_option linter.unusedVariables false
set_option linter.defProp false
namespace Go.Rex
open Go.Proofs
open Go Go.Rex Go.RowKit
set_option maxRecDepth 100000
set_option maxHeartbeats 200000
def y1:=@so23
theorem Gb{v1:(List (Nat×Nat))}{v2:Bool}(hr:pC v1=some (v2)):Spec (lim Tryz.prog) 6 [.list 2 (v1.map e_ff)] ⟨[.v (.bool v2)],[]⟩:=by
 unfold pC at hr
 have T:=an y1 <| @e_ff.eq_1
 apply Spec.fn Tryz.func6 rfl
 focus (simp[Tryz.f6]<;>exact rfl)
 focus
  refine wc_ T (g:=?_)
  rcases ifs hr with⟨h1,hr⟩|⟨h1,hr⟩
  ·have T:=an h1 T
   refine wa_ T (g:=?_)
   cases hr
   refine⟨.inr rfl,_,(ry T),?_⟩
   exact wk_ T [] rfl .nil
  ·have T:=an h1 T
   refine wc_ T (g:=?_)
   rcases ifs hr with⟨h2,hr⟩|⟨h2,hr⟩
   ·have T:=an h2 T
    refine wc_ T (g:=?_)
    cases hr
    refine⟨.inr rfl,_,(ry T),?_⟩
    exact wk_ T [] rfl .nil
   ·have T:=an h2 T
    refine wa_ T (g:=?_)
    cases hr
    refine⟨.inr rfl,_,(ry T),?_⟩
    exact wk_ T [] rfl .nil
 rfl
def y2:=an @ag36 <| an @ar37 <| an @by59 <| an @cs36 <| an @cs37 <| an @cs59 <| an @ni32 <| an @ok36 <| an @ok37 <| an @so23 <| an @so32 <| an @so37 <| an @zc59 <| @aV
theorem nD{v1:(List (Nat×Nat))}{v2:(List (Nat×Nat))}(hr:nH v1=some (v2)):Spec (lim Tryz.prog) 8 [.list 2 (v1.map e_ff)] ⟨[.lsl 0 0 v2.length],[.rows 1 (v2.map e_c)]⟩:=by
 unfold nH at hr
 have T:=an y2 <| an @e_c.eq_1 <| @e_ff.eq_1
 apply Spec.fn Tryz.func8 rfl
 focus (simp[Tryz.f8]<;>exact rfl)
 focus
  refine wa_ T (g:=?_)
  apply TX.vt (α:=(Nat×Nat)) e_c 3 1 rfl
  repeat exact sd T
  with_reducible apply TX.here
  refine wa_ T (g:=?_)
  obtain⟨v12,h7,hr⟩:=bs hr
  refine TX.loopE (step:=kV v1) (x:=(([]:List (Nat×Nat)),0)) h7 (fun (v3,v4)=>⟨.list 2 (v1.map e_ff)::.U::.U::.lsl 0 0 v3.length::.v (.int .i64 v4)::.U::.U::.U::.U::.U::.U::.U::.U::.U::.U::.U::.U::.U::.U::.U::.U::.U::.U::.U::.U::.U::[],[.rows 1 (v3.map e_c)]⟩) (fun v8=>(.exit 0,⟨.U::.U::.U::.lsl 0 0 v8.length::.U::.U::.U::.U::.U::.U::.U::.U::.U::.U::.U::.U::.U::.U::.U::.U::.U::.U::.U::.U::.U::.U::[],[.rows 1 (v8.map e_c)]⟩)) ?_ ?_ ?_ ?_
  ·rintro⟨v3,v4⟩ v0 hr
   dsimp only[kV] at hr
   try dsimp only
   refine wc_ T (g:=?_)
   rcases ifs hr with⟨h4,hr⟩|⟨h4,hr⟩
   ·have T:=an h4 T
    refine wa_ T (g:=?_)
    obtain⟨⟨v9,v10⟩,h5,hr⟩:=bs hr
    try dsimp only at hr
    have h5m:=eD (f:=e_ff) h5
    have h5l:=gC h5
    try simp only[List.length_set] at h5l
    have h5a:=gB h5
    have T:=an h5m T
    have T:=an h5l T
    have T:=an h5a T
    refine wI T (g:=?_)
    apply TD.pop1 (wn T) (Cr rfl rfl)
    repeat exact sd T
    refine wa_ T (g:=?_)
    apply TD.bm e_c ([(v9,v10)]:List (Nat×Nat)) (wn T) rfl (by simp only[zz,y2,e_c,e_ff,Nat.reduceAdd,Nat.reduceMul,Nat.reduceLeDiff,Nat.reduceEqDiff,tslice,tparts,h4,h5m,h5l,h5a];exact rfl) rfl
    repeat exact sd T
    refine wa_ T (g:=?_)
    obtain⟨v11,h6,hr⟩:=bs hr
    apply TD.ap (f:=e_c) (xs:=v3) (ys:=([(v9,v10)]:List (Nat×Nat))) (wn T) rfl rfl (by first|rfl|simp only[List.length_set]) rfl rfl so32 ni32 zc59 rfl (by rw[by59];exact h6) (fun _=>⟨rfl,rfl,rfl⟩) rfl
    repeat exact sd T
    refine wa_ T (g:=?_)
    cases hr
    refine⟨rfl,?_⟩
    exact wk_ T [some 0] rfl (.rows .nil rfl rfl)
   ·have T:=an h4 T
    refine wa_ T (g:=?_)
    cases hr
    refine⟨rfl,?_⟩
    exact wk_ T [some 0] rfl (.rows .nil rfl rfl)
  ·intro e h;cases h
  ·try dsimp only
   refine wa_ T (g:=?_)
   cases hr
   refine⟨.inr rfl,_,(ry T),?_⟩
   exact wr [some 0] rfl (.rows .nil rfl rfl)
  ·try dsimp only
   exact wr [some 0] rfl (.rows .nil rfl rfl)
 rfl
end Go.Rex
namespace Go.Rex
open Go.Proofs
open Go Go.Rex Go.RowKit
set_option maxRecDepth 100000
set_option maxHeartbeats 1000000
def y3:=an @un3 <| @un81
theorem sJ{v1:Nat}{v2:Bool}(hr:fQ v1=some (v2)):Spec (lim Tryz.prog) 34 [.v (.float .f64 v1)] ⟨[.v (.bool v2)],[]⟩:=by
 unfold fQ at hr
 have T:=y3
 apply Spec.fn Tryz.func34 rfl
 focus (simp[Tryz.f34]<;>exact rfl)
 focus
  refine wa_ T (g:=?_)
  apply TO.pop1 (wn T) (eS rfl rfl (by decide))
  repeat exact sd T
  refine wa_ T (g:=?_)
  rcases ifs hr with⟨h1,hr⟩|⟨h1,hr⟩
  ·have T:=an h1 T
   refine wa_ T (g:=?_)
   cases hr
   refine⟨.inr rfl,_,(ry T),?_⟩
   exact wk_ T [] rfl .nil
  ·have T:=an h1 T
   refine wa_ T (g:=?_)
   obtain⟨v3,h2,hr⟩:=bs hr
   apply TO.pop1 (wn T) (Rf rfl rfl (by decide) (h2))
   repeat exact sd T
   refine wa_ T (g:=?_)
   apply TO.pop1 (wn T) (eS rfl rfl (by decide))
   repeat exact sd T
   refine wa_ T (g:=?_)
   rcases ifs hr with⟨h3,hr⟩|⟨h3,hr⟩
   ·have T:=an h3 T
    refine wa_ T (g:=?_)
    cases hr
    refine⟨.inr rfl,_,(ry T),?_⟩
    exact wk_ T [] rfl .nil
   ·have T:=an h3 T
    refine wa_ T (g:=?_)
    apply TO.pop1 (wn T) (eS rfl rfl (by decide))
    repeat exact sd T
    refine wa_ T (g:=?_)
    rcases ifs hr with⟨h4,hr⟩|⟨h4,hr⟩
    ·have T:=an h4 T
     refine wa_ T (g:=?_)
     apply TO.pop1 (wn T) (eS rfl rfl (by decide))
     repeat exact sd T
     refine wa_ T (g:=?_)
     apply TO.pop1 (wn T) (bS rfl)
     repeat exact sd T
     refine wa_ T (g:=?_)
     rcases ifs hr with⟨h5,hr⟩|⟨h5,hr⟩
     ·have T:=an h5 T
      refine wa_ T (g:=?_)
      obtain⟨v4,h6,hr⟩:=bs hr
      apply TO.pop1 (wn T) (sU un81 un3 rfl h6)
      repeat exact sd T
      refine wa_ T (g:=?_)
      apply TO.pop1 (wn T) (sQ un3 un81 rfl)
      repeat exact sd T
      refine wa_ T (g:=?_)
      apply TO.pop1 (wn T) (eS rfl rfl (by decide))
      repeat exact sd T
      refine wa_ T (g:=?_)
      cases hr
      refine⟨.inr rfl,_,(ry T),?_⟩
      exact wk_ T [] rfl .nil
     ·have T:=an h5 T
      refine wa_ T (g:=?_)
      cases hr
      refine⟨.inr rfl,_,(ry T),?_⟩
      exact wk_ T [] rfl .nil
    ·have T:=an h4 T
     refine wa_ T (g:=?_)
     apply TO.pop1 (wn T) (bS rfl)
     repeat exact sd T
     refine wa_ T (g:=?_)
     cases hr
     refine⟨.inr rfl,_,(ry T),?_⟩
     exact wk_ T [] rfl .nil
 rfl
def y4:=an @ag59 <| an @cs59 <| an @ok59 <| an @so32 <| an @un36 <| an @un81 <| @aV
theorem yK{v1:(List (Nat×Nat))}{v2:Int}(hr:mW v1=some (v2)):Spec (lim Tryz.prog) 7 [.list 1 (v1.map e_c)] ⟨[.v (.int .i64 v2)],[]⟩:=by
 unfold mW at hr
 have T:=an y4 <| @e_c.eq_1
 apply Spec.fn Tryz.func7 rfl
 focus (simp[Tryz.f7]<;>exact rfl)
 focus
  refine wc_ T (g:=?_)
  rcases ifs hr with⟨h1,hr⟩|⟨h1,hr⟩
  ·have T:=an h1 T
   refine wa_ T (g:=?_)
   cases hr
   refine⟨.inr rfl,_,(ry T),?_⟩
   exact wk_ T [] rfl .nil
  ·have T:=an h1 T
   refine wc_ T (g:=?_)
   rcases ifs hr with⟨h2,hr⟩|⟨h2,hr⟩
   ·have T:=an h2 T
    refine wa_ T (g:=?_)
    cases hr
    refine⟨.inr rfl,_,(ry T),?_⟩
    exact wk_ T [] rfl .nil
   ·have T:=an h2 T
    refine wa_ T (g:=?_)
    obtain⟨v17,h27,hr⟩:=bs hr
    refine TX.loopE (step:=fE v1) (x:=0) h27 (fun v3=>⟨.list 1 (v1.map e_c)::.U::.U::.v (.int .i64 v3)::.U::.U::.U::.U::.U::.U::.U::.U::.U::.U::.U::.U::.U::.U::.U::.U::.U::.U::.U::.U::.U::.U::.U::.U::.U::.U::.U::.U::.U::.U::.U::.U::.U::.U::.U::.U::.U::.U::.U::.U::.U::.U::.U::.U::.U::.U::.U::.U::[],[]⟩) (fun e=>match e with|(.inl v10)=>(.ret,⟨.U::.U::.v (.int .i64 v10)::.U::.U::.U::.U::.U::.U::.U::.U::.U::.U::.U::.U::.U::.U::.U::.U::.U::.U::.U::.U::.U::.U::.U::.U::.U::.U::.U::.U::.U::.U::.U::.U::.U::.U::.U::.U::.U::.U::.U::.U::.U::.U::.U::.U::.U::.U::.U::.U::.U::[],[]⟩)|(.inr _)=>(.exit 0,⟨.U::.U::.U::.U::.U::.U::.U::.U::.U::.U::.U::.U::.U::.U::.U::.U::.U::.U::.U::.U::.U::.U::.U::.U::.U::.U::.U::.U::.U::.U::.U::.U::.U::.U::.U::.U::.U::.U::.U::.U::.U::.U::.U::.U::.U::.U::.U::.U::.U::.U::.U::.U::[],[]⟩)) ?_ ?_ ?_ ?_
    ·rintro v3 v0 hr
     dsimp only[fE] at hr
     try dsimp only
     refine wc_ T (g:=?_)
     rcases ifs hr with⟨h15,hr⟩|⟨h15,hr⟩
     ·have T:=an h15 T
      refine wa_ T (g:=?_)
      obtain⟨⟨v11,v12⟩,h16,hr⟩:=bs hr
      try dsimp only at hr
      have T:=an (gx e_c h16) T
      refine wA T (g:=?_)
      apply TD.pop1 (wn T) (vV rfl)
      repeat exact sd T
      refine wa_ T (g:=?_)
      obtain⟨v13,h17,hr⟩:=bs hr
      apply TD.pop1 (wn T) (qK un36 un81 rfl h17)
      repeat exact sd T
      refine wA T (g:=?_)
      apply TD.pop1 (wn T) (vE rfl)
      repeat exact sd T
      refine wa_ T (g:=?_)
      obtain⟨v14,h18,hr⟩:=bs hr
      apply TD.pop1 (wn T) (qK un36 un81 rfl h18)
      repeat exact sd T
      refine wa_ T (g:=?_)
      obtain⟨v15,h19,hr⟩:=bs hr
      apply TO.cal (wn T) rfl Yx (sJ h19) rfl rfl rfl
      repeat exact sd T
      refine wa_ T (g:=?_)
      apply TO.pop1 (wn T) (bS rfl)
      repeat exact sd T
      refine wa_ T (g:=?_)
      rcases ifs hr with⟨h20,hr⟩|⟨h20,hr⟩
      ·have T:=an h20 T
       refine wa_ T (g:=?_)
       obtain⟨v16,h21,hr⟩:=bs hr
       apply TO.cal (wn T) rfl Yx (sJ h21) rfl rfl rfl
       repeat exact sd T
       refine wa_ T (g:=?_)
       apply TO.pop1 (wn T) (bS rfl)
       repeat exact sd T
       refine wa_ T (g:=?_)
       rcases ifs hr with⟨h22,hr⟩|⟨h22,hr⟩
       ·have T:=an h22 T
        refine wa_ T (g:=?_)
        apply TO.pop1 (wn T) (eS rfl rfl (by decide))
        repeat exact sd T
        refine wa_ T (g:=?_)
        rcases ifs hr with⟨h23,hr⟩|⟨h23,hr⟩
        ·have T:=an h23 T
         refine wa_ T (g:=?_)
         cases hr
         refine⟨rfl,?_⟩
         exact wk_ T [] rfl .nil
        ·have T:=an h23 T
         refine wa_ T (g:=?_)
         apply TO.pop1 (wn T) (eS rfl rfl (by decide))
         repeat exact sd T
         refine wa_ T (g:=?_)
         rcases ifs hr with⟨h24,hr⟩|⟨h24,hr⟩
         ·have T:=an h24 T
          refine wa_ T (g:=?_)
          cases hr
          refine⟨rfl,?_⟩
          exact wk_ T [] rfl .nil
         ·have T:=an h24 T
          refine wa_ T (g:=?_)
          apply TO.pop1 (wn T) (eS rfl rfl (by decide))
          repeat exact sd T
          refine wa_ T (g:=?_)
          rcases ifs hr with⟨h25,hr⟩|⟨h25,hr⟩
          ·have T:=an h25 T
           refine wa_ T (g:=?_)
           cases hr
           refine⟨rfl,?_⟩
           exact wk_ T [] rfl .nil
          ·have T:=an h25 T
           refine wa_ T (g:=?_)
           apply TO.pop1 (wn T) (eS rfl rfl (by decide))
           repeat exact sd T
           refine wa_ T (g:=?_)
           rcases ifs hr with⟨h26,hr⟩|⟨h26,hr⟩
           ·have T:=an h26 T
            refine wa_ T (g:=?_)
            cases hr
            refine⟨rfl,?_⟩
            exact wk_ T [] rfl .nil
           ·have T:=an h26 T
            refine wa_ T (g:=?_)
            cases hr
            refine⟨rfl,?_⟩
            exact wk_ T [] rfl .nil
       ·have T:=an h22 T
        refine wa_ T (g:=?_)
        cases hr
        refine⟨rfl,?_⟩
        exact wk_ T [] rfl .nil
      ·have T:=an h20 T
       refine wa_ T (g:=?_)
       cases hr
       refine⟨rfl,?_⟩
       exact wk_ T [] rfl .nil
     ·have T:=an h15 T
      refine wa_ T (g:=?_)
      cases hr
      refine⟨rfl,?_⟩
      exact wk_ T [] rfl .nil
    ·intro e h;rcases e with _|e<;>cases h
    ·try dsimp only
     rcases v17 with v18|_
     ·try dsimp only at hr
      try dsimp only
      refine wa_ T (g:=?_)
      cases hr
      refine⟨.inr rfl,_,(ry T),?_⟩
      exact wk_ T [] rfl .nil
     ·try dsimp only at hr
      try dsimp only
      refine wa_ T (g:=?_)
      cases hr
      refine⟨.inr rfl,_,(ry T),?_⟩
      exact wk_ T [] rfl .nil
    ·try dsimp only
     exact wk_ T [] rfl .nil
 rfl
end Go.Rex
namespace Go.Rex
open Go.Proofs
open Go Go.Rex Go.RowKit
set_option maxRecDepth 100000
set_option maxHeartbeats 200000
theorem fH{v1:Int}{v2:Int}{v3:Int}{v4:Bool}(hr:fU v1 v2 v3=some (v4)):Spec (lim Tryz.prog) 17 [.v (.int .i64 v1),.v (.int .i64 v2),.v (.int .i64 v3)] ⟨[.v (.bool v4)],[]⟩:=by
 unfold fU at hr
 have T:=trivial
 apply Spec.fn Tryz.func17 rfl
 focus (simp[Tryz.f17]<;>exact rfl)
 focus
  refine wa_ T (g:=?_)
  rcases ifs hr with⟨h1,hr⟩|⟨h1,hr⟩
  ·have T:=an h1 T
   refine wa_ T (g:=?_)
   cases hr
   refine⟨.inr rfl,_,(ry T),?_⟩
   exact wk_ T [] rfl .nil
  ·have T:=an h1 T
   refine wa_ T (g:=?_)
   cases hr
   refine⟨.inr rfl,_,(ry T),?_⟩
   exact wk_ T [] rfl .nil
 rfl
end Go.Rex
namespace Go.Rex
open Go.Proofs
open Go Go.Rex Go.RowKit
set_option maxRecDepth 100000
set_option maxHeartbeats 1000000
def y5:=an @ag24 <| an @ag3 <| an @cs3 <| an @vK <| an @Bh <| an @ok3 <| an @so24 <| @aV
theorem sM{v1:Int}{v2:(List Int)}{v3:Int}(hr:gP v1 v2=some (v3)):Spec (lim Tryz.prog) 35 [.agg [.v (.int .i64 v1),.list 1 (v2.map e_i)]] ⟨[.v (.int .i64 v3)],[]⟩:=by
 unfold gP at hr
 have T:=an y5 <| @e_i.eq_1
 apply Spec.fn Tryz.func35 rfl
 focus (simp[Tryz.f35]<;>exact rfl)
 focus
  refine wB T (g:=?_)
  obtain⟨v4,h1,hr⟩:=bs hr
  apply TO.cal (wn T) rfl yV (fH h1) rfl rfl rfl
  repeat exact sd T
  refine wa_ T (g:=?_)
  apply TO.pop1 (wn T) (bS rfl)
  repeat exact sd T
  refine wa_ T (g:=?_)
  rcases ifs hr with⟨h2,hr⟩|⟨h2,hr⟩
  ·have T:=an h2 T
   refine wC T (g:=?_)
   rcases ifs hr with⟨h3,hr⟩|⟨h3,hr⟩
   ·have T:=an h3 T
    refine wa_ T (g:=?_)
    cases hr
    refine⟨.inr rfl,_,(ry T),?_⟩
    exact wk_ T [] rfl .nil
   ·have T:=an h3 T
    refine wa_ T (g:=?_)
    obtain⟨v13,h18,hr⟩:=bs hr
    refine TX.loopE (step:=cV v1 v2) (x:=0) h18 (fun v5=>⟨.U::.fptr true [.v (.int .i64 v1),.list 1 (v2.map e_i)] 0::.U::.v (.int .i64 v5)::.U::.U::.U::.U::.U::.U::.U::.U::.U::.U::.U::.U::.U::.U::.U::.U::.U::.U::.U::.U::.U::.U::.U::.U::.U::.U::.U::.U::.U::.U::.U::.U::.U::.U::.U::.U::.U::.U::.U::.U::.U::.U::.U::.U::.U::.U::.U::.U::.U::.U::.U::[],[]⟩) (fun e=>match e with|(.inl v9)=>(.ret,⟨.U::.U::.v (.int .i64 v9)::.U::.U::.U::.U::.U::.U::.U::.U::.U::.U::.U::.U::.U::.U::.U::.U::.U::.U::.U::.U::.U::.U::.U::.U::.U::.U::.U::.U::.U::.U::.U::.U::.U::.U::.U::.U::.U::.U::.U::.U::.U::.U::.U::.U::.U::.U::.U::.U::.U::.U::.U::.U::[],[]⟩)|(.inr _)=>(.exit 0,⟨.U::.fptr true [.v (.int .i64 v1),.list 1 (v2.map e_i)] 0::.U::.U::.U::.U::.U::.U::.U::.U::.U::.U::.U::.U::.U::.U::.U::.U::.U::.U::.U::.U::.U::.U::.U::.U::.U::.U::.U::.U::.U::.U::.U::.U::.U::.U::.U::.U::.U::.U::.U::.U::.U::.U::.U::.U::.U::.U::.U::.U::.U::.U::.U::.U::.U::[],[]⟩)) ?_ ?_ ?_ ?_
    ·rintro v5 v0 hr
     dsimp only[cV] at hr
     try dsimp only
     refine wC T (g:=?_)
     rcases ifs hr with⟨h11,hr⟩|⟨h11,hr⟩
     ·have T:=an h11 T
      refine wA T (g:=?_)
      obtain⟨v10,h12,hr⟩:=bs hr
      have T:=an (gx e_i h12) T
      refine wA T (g:=?_)
      obtain⟨v11,h13,hr⟩:=bs hr
      apply TD.cal (wn T) rfl yV (fH h13) rfl rfl rfl
      repeat exact sd T
      refine wa_ T (g:=?_)
      apply TD.pop1 (wn T) (bS rfl)
      repeat exact sd T
      refine wa_ T (g:=?_)
      rcases ifs hr with⟨h14,hr⟩|⟨h14,hr⟩
      ·have T:=an h14 T
       refine wa_ T (g:=?_)
       rcases ifs hr with⟨h15,hr⟩|⟨h15,hr⟩
       ·have T:=an h15 T
        refine wA T (g:=?_)
        obtain⟨v12,h16,hr⟩:=bs hr
        have T:=an (gx e_i h16) T
        refine wA T (g:=?_)
        rcases ifs hr with⟨h17,hr⟩|⟨h17,hr⟩
        ·have T:=an h17 T
         refine wa_ T (g:=?_)
         cases hr
         refine⟨rfl,?_⟩
         exact wk_ T [] rfl .nil
        ·have T:=an h17 T
         refine wa_ T (g:=?_)
         cases hr
         refine⟨rfl,?_⟩
         exact wk_ T [] rfl .nil
       ·have T:=an h15 T
        refine wa_ T (g:=?_)
        cases hr
        refine⟨rfl,?_⟩
        exact wk_ T [] rfl .nil
      ·have T:=an h14 T
       refine wa_ T (g:=?_)
       cases hr
       refine⟨rfl,?_⟩
       exact wk_ T [] rfl .nil
     ·have T:=an h11 T
      refine wa_ T (g:=?_)
      cases hr
      refine⟨rfl,?_⟩
      exact wk_ T [] rfl .nil
    ·intro e h;rcases e with _|e<;>cases h
    ·try dsimp only
     rcases v13 with v14|_
     ·try dsimp only at hr
      try dsimp only
      refine wa_ T (g:=?_)
      cases hr
      refine⟨.inr rfl,_,(ry T),?_⟩
      exact wk_ T [] rfl .nil
     ·try dsimp only at hr
      try dsimp only
      refine wC T (g:=?_)
      obtain⟨v15,h19,hr⟩:=bs hr
      have T:=an (gx e_i h19) T
      refine wA T (g:=?_)
      rcases ifs hr with⟨h20,hr⟩|⟨h20,hr⟩
      ·have T:=an h20 T
       refine wa_ T (g:=?_)
       cases hr
       refine⟨.inr rfl,_,(ry T),?_⟩
       exact wk_ T [] rfl .nil
      ·have T:=an h20 T
       refine wa_ T (g:=?_)
       cases hr
       refine⟨.inr rfl,_,(ry T),?_⟩
       exact wk_ T [] rfl .nil
    ·try dsimp only
     exact wk_ T [] rfl .nil
  ·have T:=an h2 T
   refine wa_ T (g:=?_)
   cases hr
   refine⟨.inr rfl,_,(ry T),?_⟩
   exact wk_ T [] rfl .nil
 rfl
end Go.Rex
namespace Go.Rex
open Go.Proofs
open Go Go.Rex Go.RowKit
set_option maxRecDepth 100000
set_option maxHeartbeats 200000
def y6:=an @ag3 <| an @vK <| an @aV <| @aAB
theorem qJ{v1:Int}{v2:(List Int)}{v3:Int}(hr:nK v1 v2=some (v3)):Spec (lim Tryz.prog) 11 [.agg [.v (.int .i64 v1),.list 1 (v2.map e_i)]] ⟨[.v (.int .i64 v3)],[]⟩:=by
 unfold nK at hr
 have T:=an y6 <| @e_i.eq_1
 apply Spec.fn Tryz.func11 rfl
 focus (simp[Tryz.f11]<;>exact rfl)
 focus
  refine wb_ T (g:=?_)
  obtain⟨v7,h3,hr⟩:=bs hr
  refine TX.loopE (step:=kU v1) (x:=(1,0)) h3 (fun (v4,v5)=>⟨.U::.fptr true [.v (.int .i64 v1),.list 1 (v2.map e_i)] 0::.U::.v (.int .i64 v4)::.v (.int .i64 v5)::.U::.U::.U::.U::.U::.U::.U::.U::.U::.U::[],[]⟩) (fun v6=>(.exit 0,⟨.U::.U::.U::.v (.int .i64 v6)::.U::.U::.U::.U::.U::.U::.U::.U::.U::.U::.U::[],[]⟩)) ?_ ?_ ?_ ?_
  ·rintro⟨v4,v5⟩ v0 hr
   dsimp only[kU] at hr
   try dsimp only
   refine wA T (g:=?_)
   rcases ifs hr with⟨h2,hr⟩|⟨h2,hr⟩
   ·have T:=an h2 T
    refine wa_ T (g:=?_)
    cases hr
    refine⟨rfl,?_⟩
    exact wk_ T [] rfl .nil
   ·have T:=an h2 T
    refine wa_ T (g:=?_)
    cases hr
    refine⟨rfl,?_⟩
    exact wk_ T [] rfl .nil
  ·intro e h;cases h
  ·try dsimp only
   refine wa_ T (g:=?_)
   cases hr
   refine⟨.inr rfl,_,(ry T),?_⟩
   exact wr [] rfl .nil
  ·try dsimp only
   exact wr [] rfl .nil
 rfl
def y7:=an @ag26 <| an @cs26 <| @ok26
theorem xR{v1:Int}{v2:(List Int)}{v3:Int}{v4:Int}(hr:iG v1 v2 v3=some (v4)):Spec (lim Tryz.prog) 9 [.agg [.v (.int .i64 v1),.list 1 (v2.map e_i)],.v (.int .i64 v3)] ⟨[.v (.int .i64 v4)],[]⟩:=by
 unfold iG at hr
 have T:=an y7 <| @e_i.eq_1
 apply Spec.fn Tryz.func9 rfl
 focus (simp[Tryz.f9]<;>exact rfl)
 focus
  refine wB T (g:=?_)
  obtain⟨v5,h1,hr⟩:=bs hr
  apply TO.cal (wn T) rfl aCG (sM h1) rfl rfl rfl
  repeat exact sd T
  refine wa_ T (g:=?_)
  rcases ifs hr with⟨h2,hr⟩|⟨h2,hr⟩
  ·have T:=an h2 T
   refine wa_ T (g:=?_)
   cases hr
   refine⟨.inr rfl,_,(ry T),?_⟩
   exact wk_ T [] rfl .nil
  ·have T:=an h2 T
   refine wA T (g:=?_)
   obtain⟨v6,h3,hr⟩:=bs hr
   apply TO.cal (wn T) rfl Sk (qJ h3) rfl rfl rfl
   repeat exact sd T
   refine wa_ T (g:=?_)
   obtain⟨v7,h4,hr⟩:=bs hr
   apply TO.cal (wn T) rfl yV (fH h4) rfl rfl rfl
   repeat exact sd T
   refine wa_ T (g:=?_)
   apply TO.pop1 (wn T) (bS rfl)
   repeat exact sd T
   refine wa_ T (g:=?_)
   rcases ifs hr with⟨h5,hr⟩|⟨h5,hr⟩
   ·have T:=an h5 T
    refine wa_ T (g:=?_)
    cases hr
    refine⟨.inr rfl,_,(ry T),?_⟩
    exact wk_ T [] rfl .nil
   ·have T:=an h5 T
    refine wa_ T (g:=?_)
    cases hr
    refine⟨.inr rfl,_,(ry T),?_⟩
    exact wk_ T [] rfl .nil
 rfl
end Go.Rex
namespace Go.Rex
open Go.Proofs
open Go Go.Rex Go.RowKit
set_option maxRecDepth 100000
set_option maxHeartbeats 1000000
def y8:=an @ag24 <| an @ag3 <| an @by3 <| an @cs3 <| an @vK <| an @Bh <| an @ni24 <| an @ok3 <| an @so24 <| an @zc3 <| @aV
theorem Da{v1:Int}{v2:(List Int)}{v3:Int}{v4:Int}{v5:(List Int)}(hr:rG v1 v2 v3 v4=some (v5)):Spec (lim Tryz.prog) 118 [.agg [.v (.int .i64 v1),.list 1 (v2.map e_i)],.v (.int .i64 v3),.v (.int .i64 v4)] ⟨[.lsl 0 0 v5.length],[.rows 1 (v5.map e_i)]⟩:=by
 unfold rG at hr
 have T:=an y8 <| @e_i.eq_1
 apply Spec.fn Tryz.func118 rfl
 focus (simp[Tryz.f118]<;>exact rfl)
 focus
  refine wb_ T (g:=?_)
  apply TX.vt (α:=Int) e_i 7 1 rfl
  repeat exact sd T
  with_reducible apply TX.here
  refine wa_ T (g:=?_)
  obtain⟨v30,h23,hr⟩:=bs hr
  refine TX.loopE (step:=kZ v1 v2 v4) (x:=(v3,([]:List Int),0)) h23 (fun (v6,v7,v8)=>⟨.U::.v (.int .i64 v6)::.v (.int .i64 v4)::.fptr true [.v (.int .i64 v1),.list 1 (v2.map e_i)] 0::.U::.U::.U::.lsl 0 0 v7.length::.v (.int .i64 v8)::.U::.U::.U::.U::.U::.U::.U::.U::.U::.U::.U::.U::.U::.U::.U::.U::.U::.U::.U::.U::.U::.U::.U::.U::.U::.U::.U::.U::.U::.U::.U::.U::.U::.U::.U::.U::.U::.U::.U::.U::.U::.U::.U::[],[.rows 1 (v7.map e_i)]⟩) (fun v19=>(.exit 0,⟨.U::.U::.U::.U::.U::.U::.U::.lsl 0 0 v19.length::.U::.U::.U::.U::.U::.U::.U::.U::.U::.U::.U::.U::.U::.U::.U::.U::.U::.U::.U::.U::.U::.U::.U::.U::.U::.U::.U::.U::.U::.U::.U::.U::.U::.U::.U::.U::.U::.U::.U::.U::.U::.U::.U::.U::[],[.rows 1 (v19.map e_i)]⟩)) ?_ ?_ ?_ ?_
  ·rintro⟨v6,v7,v8⟩ v0 hr
   dsimp only[kZ] at hr
   try dsimp only
   refine wa_ T (g:=?_)
   rcases ifs hr with⟨h12,hr⟩|⟨h12,hr⟩
   ·have T:=an h12 T
    refine wA T (g:=?_)
    rcases ifs hr with⟨h13,hr⟩|⟨h13,hr⟩
    ·have T:=an h13 T
     refine wa_ T (g:=?_)
     apply TO.bm e_i ([(v6.tmod 2)]:List Int) (wn T) rfl (by simp only[zz,y8,e_i,Nat.reduceAdd,Nat.reduceMul,Nat.reduceLeDiff,Nat.reduceEqDiff,tslice,tparts,h12,h13];exact rfl) rfl
     repeat exact sd T
     refine wa_ T (g:=?_)
     obtain⟨v20,h14,hr⟩:=bs hr
     apply TO.ap (f:=e_i) (xs:=v7) (ys:=([(v6.tmod 2)]:List Int)) (wn T) rfl rfl (by first|rfl|simp only[List.length_set]) rfl rfl so24 ni24 zc3 rfl (by rw[by3];exact h14) (fun _=>⟨rfl,rfl,rfl⟩)
     repeat exact sd T
     refine wa_ T (g:=?_)
     cases hr
     refine⟨rfl,?_⟩
     exact wk_ T [some 0] rfl (.rows .nil rfl rfl)
    ·have T:=an h13 T
     refine wa_ T (g:=?_)
     obtain⟨v28,h21,hr⟩:=bs hr
     refine TX.loopE (step:=kT v2 v7 v8) (x:=(0,0)) h21 (fun (v21,v22)=>⟨.U::.v (.int .i64 v6)::.v (.int .i64 v4)::.fptr true [.v (.int .i64 v1),.list 1 (v2.map e_i)] 0::.U::.U::.U::.lsl 0 0 v7.length::.v (.int .i64 v8)::.v (.int .i64 v21)::.v (.int .i64 v22)::.U::.U::.U::.U::.U::.U::.U::.U::.U::.U::.U::.U::.U::.U::.U::.U::.U::.U::.U::.U::.U::.U::.U::.U::.U::.U::.U::.U::.U::.U::.U::.U::.U::.U::.U::.U::.U::.U::.U::.U::.U::[],[.rows 1 (v7.map e_i)]⟩) (fun v25=>(.exit 2,⟨.U::.v (.int .i64 v6)::.v (.int .i64 v4)::.fptr true [.v (.int .i64 v1),.list 1 (v2.map e_i)] 0::.U::.U::.U::.lsl 0 0 v7.length::.v (.int .i64 v8)::.v (.int .i64 v25)::.U::.U::.U::.U::.U::.U::.U::.U::.U::.U::.U::.U::.U::.U::.U::.U::.U::.U::.U::.U::.U::.U::.U::.U::.U::.U::.U::.U::.U::.U::.U::.U::.U::.U::.U::.U::.U::.U::.U::.U::.U::.U::[],[.rows 1 (v7.map e_i)]⟩)) ?_ ?_ ?_ ?_
     ·rintro⟨v21,v22⟩ v0 hr
      dsimp only[kT] at hr
      try dsimp only
      refine wC T (g:=?_)
      rcases ifs hr with⟨h18,hr⟩|⟨h18,hr⟩
      ·have T:=an h18 T
       refine wA T (g:=?_)
       obtain⟨v26,h19,hr⟩:=bs hr
       have T:=an (gx e_i h19) T
       refine wA T (g:=?_)
       obtain⟨v27,h20,hr⟩:=bs hr
       have T:=an (gx e_i h20) T
       refine wA T (g:=?_)
       cases hr
       refine⟨rfl,?_⟩
       exact wk_ T [some 0] rfl (.rows .nil rfl rfl)
      ·have T:=an h18 T
       refine wa_ T (g:=?_)
       cases hr
       refine⟨rfl,?_⟩
       exact wk_ T [some 0] rfl (.rows .nil rfl rfl)
     ·intro e h;cases h
     ·try dsimp only
      refine wa_ T (g:=?_)
      apply TO.bm e_i ([(v28.tmod 2)]:List Int) (wn T) rfl (by simp only[zz,y8,e_i,Nat.reduceAdd,Nat.reduceMul,Nat.reduceLeDiff,Nat.reduceEqDiff,tslice,tparts,h12,h13];exact rfl) rfl
      repeat exact sd T
      refine wa_ T (g:=?_)
      obtain⟨v29,h22,hr⟩:=bs hr
      apply TO.ap (f:=e_i) (xs:=v7) (ys:=([(v28.tmod 2)]:List Int)) (wn T) rfl rfl (by first|rfl|simp only[List.length_set]) rfl rfl so24 ni24 zc3 rfl (by rw[by3];exact h22) (fun _=>⟨rfl,rfl,rfl⟩)
      repeat exact sd T
      refine wa_ T (g:=?_)
      cases hr
      refine⟨rfl,?_⟩
      exact wk_ T [some 0] rfl (.rows .nil rfl rfl)
     ·try dsimp only
      exact wk_ T [some 0] rfl (.rows .nil rfl rfl)
   ·have T:=an h12 T
    refine wa_ T (g:=?_)
    cases hr
    refine⟨rfl,?_⟩
    exact wk_ T [some 0] rfl (.rows .nil rfl rfl)
  ·intro e h;cases h
  ·try dsimp only
   refine wa_ T (g:=?_)
   cases hr
   refine⟨.inr rfl,_,(ry T),?_⟩
   exact wr [some 0] rfl (.rows .nil rfl rfl)
  ·try dsimp only
   exact wr [some 0] rfl (.rows .nil rfl rfl)
 rfl
end Go.Rex
namespace Go.Rex
open Go.Proofs
open Go Go.Rex Go.RowKit
set_option maxRecDepth 100000
set_option maxHeartbeats 200000
def y9:=an @ag26 <| an @ag3 <| an @cs26 <| an @cs3 <| an @vK <| an @ok26 <| an @ok3 <| an @so24 <| @aAl
theorem uX{v1:Int}{v2:(List Int)}{v3:Int}{v4:Int}(hr:oY v1 v2 v3=some (v4)):Spec (lim Tryz.prog) 82 [.agg [.v (.int .i64 v1),.list 1 (v2.map e_i)],.v (.int .i64 v3)] ⟨[.v (.int .i64 v4)],[]⟩:=by
 unfold oY at hr
 have T:=an y9 <| @e_i.eq_1
 apply Spec.fn Tryz.func82 rfl
 focus (simp[Tryz.f82]<;>exact rfl)
 focus
  refine wB T (g:=?_)
  obtain⟨v5,h1,hr⟩:=bs hr
  apply TO.cal (wn T) rfl aBT (Da h1) rfl rfl rfl
  repeat exact sd T
  refine wA T (g:=?_)
  obtain⟨v11,h6,hr⟩:=bs hr
  refine TX.loopE (step:=kY v5) (x:=(0,v1)) h6 (fun (v6,v7)=>⟨.U::.U::.U::.U::.U::.lsl 0 0 v5.length::.v (.int .i64 v6)::.v (.int .i64 v7)::.U::.U::.U::.U::.U::.U::.U::.U::.U::.U::.U::.U::.U::.U::.U::.U::.U::.U::.U::.U::[],[.rows 1 (v5.map e_i)]⟩) (fun v9=>(.exit 0,⟨.U::.U::.U::.U::.U::.U::.v (.int .i64 v9)::.U::.U::.U::.U::.U::.U::.U::.U::.U::.U::.U::.U::.U::.U::.U::.U::.U::.U::.U::.U::.U::[],[]⟩)) ?_ ?_ ?_ ?_
  ·rintro⟨v6,v7⟩ v0 hr
   dsimp only[kY] at hr
   try dsimp only
   refine wa_ T (g:=?_)
   rcases ifs hr with⟨h4,hr⟩|⟨h4,hr⟩
   ·have T:=an h4 T
    refine wa_ T (g:=?_)
    obtain⟨v10,h5,hr⟩:=bs hr
    have T:=an (gx e_i h5) T
    refine wA T (g:=?_)
    cases hr
    refine⟨rfl,?_⟩
    exact wk_ T [some 0] rfl (.rows .nil rfl rfl)
   ·have T:=an h4 T
    refine wa_ T (g:=?_)
    cases hr
    refine⟨rfl,?_⟩
    exact wk_ T [] rfl .nil
  ·intro e h;cases h
  ·try dsimp only
   refine wa_ T (g:=?_)
   cases hr
   refine⟨.inr rfl,_,(ry T),?_⟩
   exact wr [] rfl .nil
  ·try dsimp only
   exact wr [some 0] rfl (.rows .nil rfl rfl)
 rfl
def y10:=an @ag26 <| an @cs26 <| an @ok26 <| @kM
theorem zS{v1:Int}{v2:(List Int)}{v3:Int}{v4:Int}(hr:oC v1 v2 v3=some (v4)):Spec (lim Tryz.prog) 36 [.agg [.v (.int .i64 v1),.list 1 (v2.map e_i)],.v (.int .i64 v3)] ⟨[.v (.int .i64 v4)],[]⟩:=by
 unfold oC at hr
 have T:=an y10 <| @e_i.eq_1
 apply Spec.fn Tryz.func36 rfl
 focus (simp[Tryz.f36]<;>exact rfl)
 focus
  refine wB T (g:=?_)
  obtain⟨v5,h1,hr⟩:=bs hr
  apply TO.cal (wn T) rfl Zl (uX h1) rfl rfl rfl
  repeat exact sd T
  refine wa_ T (g:=?_)
  obtain⟨v11,h6,hr⟩:=bs hr
  refine TX.loopE (step:=jC v1 v2 v3) (x:=(1,v5)) h6 (fun (v6,v7)=>⟨.U::.v (.int .i64 v3)::.fptr true [.v (.int .i64 v1),.list 1 (v2.map e_i)] 0::.U::.U::.v (.int .i64 v6)::.v (.int .i64 v7)::.U::.U::.U::.U::.U::.U::.U::.U::.U::.U::.U::.U::[],[]⟩) (fun v9=>(.exit 0,⟨.U::.U::.U::.U::.U::.v (.int .i64 v9)::.U::.U::.U::.U::.U::.U::.U::.U::.U::.U::.U::.U::.U::[],[]⟩)) ?_ ?_ ?_ ?_
  ·rintro⟨v6,v7⟩ v0 hr
   dsimp only[jC] at hr
   try dsimp only
   refine wa_ T (g:=?_)
   rcases ifs hr with⟨h4,hr⟩|⟨h4,hr⟩
   ·have T:=an h4 T
    refine wA T (g:=?_)
    obtain⟨v10,h5,hr⟩:=bs hr
    apply TO.cal (wn T) rfl Zl (uX h5) rfl rfl rfl
    repeat exact sd T
    refine wa_ T (g:=?_)
    cases hr
    refine⟨rfl,?_⟩
    exact wk_ T [] rfl .nil
   ·have T:=an h4 T
    refine wa_ T (g:=?_)
    cases hr
    refine⟨rfl,?_⟩
    exact wk_ T [] rfl .nil
  ·intro e h;cases h
  ·try dsimp only
   refine wa_ T (g:=?_)
   cases hr
   refine⟨.inr rfl,_,(ry T),?_⟩
   exact wr [] rfl .nil
  ·try dsimp only
   exact wr [] rfl .nil
 rfl
def y11:=an @ag26 <| an @cs26 <| @ok26
theorem wV{v1:Int}{v2:(List Int)}{v3:Bool}(hr:kS v1 v2=some (v3)):Spec (lim Tryz.prog) 10 [.agg [.v (.int .i64 v1),.list 1 (v2.map e_i)]] ⟨[.v (.bool v3)],[]⟩:=by
 unfold kS at hr
 have T:=an y11 <| @e_i.eq_1
 apply Spec.fn Tryz.func10 rfl
 focus (simp[Tryz.f10]<;>exact rfl)
 focus
  refine wB T (g:=?_)
  obtain⟨v4,h1,hr⟩:=bs hr
  apply TD.cal (wn T) rfl aCR (zS h1) rfl rfl rfl
  repeat exact sd T
  refine wA T (g:=?_)
  obtain⟨v5,h2,hr⟩:=bs hr
  apply TD.cal (wn T) rfl Sk (qJ h2) rfl rfl rfl
  repeat exact sd T
  refine wa_ T (g:=?_)
  cases hr
  refine⟨.inr rfl,_,(ry T),?_⟩
  exact wr [] rfl .nil
 rfl
def y12:=an @by3 <| an @cs3 <| an @ni24 <| an @so24 <| @zc3
theorem yF{v1:(List Int)}{v2:(List Int)}(hr:mU v1=some (v2)):Spec (lim Tryz.prog) 48 [.list 1 (v1.map e_i)] ⟨[.lsl 0 0 v2.length],[.rows 1 (v2.map e_i)]⟩:=by
 unfold mU at hr
 have T:=an y12 <| @e_i.eq_1
 apply Spec.fn Tryz.func48 rfl
 focus (simp[Tryz.f48]<;>exact rfl)
 focus
  refine wa_ T (g:=?_)
  apply TO.bl e_i ([]:List Int) (wn T) rfl (by simp only[zz,y12,e_i,Nat.reduceAdd,Nat.reduceMul,Nat.reduceLeDiff,Nat.reduceEqDiff,tslice,tparts];exact rfl) rfl rfl
  repeat exact sd T
  refine wa_ T (g:=?_)
  obtain⟨v3,h1,hr⟩:=bs hr
  apply TO.ap (f:=e_i) (xs:=([]:List Int)) (ys:=v1) (wn T) rfl rfl (by first|rfl|simp only[List.length_set]) rfl rfl so24 ni24 zc3 rfl (by rw[by3];exact h1) (fun _=>⟨rfl,rfl,rfl⟩)
  repeat exact sd T
  refine wa_ T (g:=?_)
  cases hr
  refine⟨.inr rfl,_,(ry T),?_⟩
  exact wr [some 0] rfl (.rows .nil rfl rfl)
 rfl
def y13:=an @ag24 <| an @ag26 <| an @ag3 <| an @cs26 <| an @vK <| an @Bh <| an @ok26 <| an @st26 <| @zc26
theorem kQ{v1:Int}{v2:(List Int)}{v3:Int}{v4:(List Int)}(hr:nM v1 v2=some (v3,v4)):Spec (lim Tryz.prog) 13 [.agg [.v (.int .i64 v1),.list 1 (v2.map e_i)]] ⟨[.agg [.v (.int .i64 v3),.lsl 0 0 v4.length]],[.rows 1 (v4.map e_i)]⟩:=by
 unfold nM at hr
 have T:=an y13 <| @e_i.eq_1
 apply Spec.fn Tryz.func13 rfl
 focus (simp[Tryz.f13]<;>exact rfl)
 focus
  refine wB T (g:=?_)
  obtain⟨v5,h1,hr⟩:=bs hr
  apply TD.cal (wn T) rfl aCq (yF h1) rfl rfl rfl
  repeat exact sd T
  refine wa_ T (g:=?_)
  cases hr
  refine⟨.inr rfl,_,(ry T),?_⟩
  exact wr [some 1] rfl (.rows .nil rfl rfl)
 rfl
theorem jK{v1:(List (Nat×Nat))}{v2:(List (Nat×Nat))}(hr:fP v1=some (v2)):Spec (lim Tryz.prog) 38 [.list 1 (v1.map e_c)] ⟨[.func 83 [] [.fptr true [.list 1 (v2.map e_c)] 0]],[]⟩:=by
 unfold fP at hr
 have T:=@e_c.eq_1
 apply Spec.fn Tryz.func38 rfl
 focus (simp[Tryz.f38]<;>exact rfl)
 focus
  refine wb_ T (g:=?_)
  cases hr
  refine⟨.inr rfl,_,(ry T),?_⟩
  exact wr [] rfl .nil
 rfl
theorem cZ{v1:Int}{v2:(List Int)}{v3:Int}{v4:Int}{v5:Int}{v6:(List Int)}(hr:aY v1 v2 v3=some (v4,v5,v6)):Spec (lim Tryz.prog) 40 [.agg [.v (.int .i64 v1),.list 1 (v2.map e_i)],.v (.int .i64 v3)] ⟨[.func 87 [] [.fptr true [.v (.int .i64 v4)] 0,.fptr true [.v (.int .i64 v5),.list 1 (v6.map e_i)] 0]],[]⟩:=by
 unfold aY at hr
 have T:=@e_i.eq_1
 apply Spec.fn Tryz.func40 rfl
 focus (simp[Tryz.f40]<;>exact rfl)
 focus
  refine wb_ T (g:=?_)
  cases hr
  refine⟨.inr rfl,_,(ry T),?_⟩
  exact wr [] rfl .nil
 rfl
theorem aE{v1:Bool}{v2:Int}{v3:Bool}{v4:Int}(hr:aD v1 v2=some (v3,v4)):Spec (lim Tryz.prog) 52 [.v (.bool v1),.v (.int .i64 v2)] ⟨[.func 91 [] [.fptr true [.v (.bool v3)] 0,.fptr true [.v (.int .i64 v4)] 0]],[]⟩:=by
 unfold aD at hr
 have T:=trivial
 apply Spec.fn Tryz.func52 rfl
 focus (simp[Tryz.f52]<;>exact rfl)
 focus
  refine wb_ T (g:=?_)
  cases hr
  refine⟨.inr rfl,_,(ry T),?_⟩
  exact wr [] rfl .nil
 rfl
theorem vT{v1:Int}{v2:(List (Nat×Nat))}{v3:Int}{v4:(List (Nat×Nat))}(hr:mY v1 v2=some (v3,v4)):Spec (lim Tryz.prog) 68 [.v (.int .i64 v1),.func 84 [] [.fptr true [.list 1 (v2.map e_c)] 0]] ⟨[.func 103 [] [.fptr true [.v (.int .i64 v3)] 0,.fptr true [.func 84 [] [.fptr true [.list 1 (v4.map e_c)] 0]] 0]],[]⟩:=by
 unfold mY at hr
 have T:=@e_c.eq_1
 apply Spec.fn Tryz.func68 rfl
 focus (simp[Tryz.f68]<;>exact rfl)
 focus
  refine wb_ T (g:=?_)
  cases hr
  refine⟨.inr rfl,_,(ry T),?_⟩
  exact wr [] rfl .nil
 rfl
def y14:=an @ag39 <| @ag4
theorem aB{v1:Bool}{v2:Int}{v3:Int}(hr:aA v1 v2=some (v3)):Spec (lim Tryz.prog) 91 [.fptr true [.v (.bool v1)] 0,.fptr true [.v (.int .i64 v2)] 0] ⟨[.v (.int .i64 v3)],[]⟩:=by
 unfold aA at hr
 have T:=y14
 apply Spec.fn Tryz.func91 rfl
 focus (simp[Tryz.f91]<;>exact rfl)
 focus
  refine wA T (g:=?_)
  rcases ifs hr with⟨h1,hr⟩|⟨h1,hr⟩
  ·have T:=an h1 T
   refine wA T (g:=?_)
   cases hr
   refine⟨.inr rfl,_,(ry T),?_⟩
   exact wk_ T [] rfl .nil
  ·have T:=an h1 T
   refine wa_ T (g:=?_)
   cases hr
   refine⟨.inr rfl,_,(ry T),?_⟩
   exact wk_ T [] rfl .nil
 rfl
def y15:=an @aAJ <| @ex140
theorem Dg{v1:Nat}{v2:Nat}(hr:nJ v1=some (v2)):Spec (lim Tryz.prog) 134 [.v (.float .f64 v1)] ⟨[.v (.float .f64 v2)],[]⟩:=by
 unfold nJ at hr
 have T:=y15
 apply Spec.fn Tryz.func134 rfl
 focus (simp[Tryz.f134]<;>exact rfl)
 focus
  refine wa_ T (g:=?_)
  obtain⟨v3,h1,hr⟩:=bs hr
  apply TO.tr (wn T) rfl ex140 aAJ (by simp only[z1,z3,zl]<;>rfl) h1
  repeat exact sd T
  refine wa_ T (g:=?_)
  cases hr
  refine⟨.inr rfl,_,(ry T),?_⟩
  exact wr [] rfl .nil
 rfl
def y16:=an @ex146 <| @ex92
theorem Hb{v1:Nat}{v2:Nat}(hr:yY v1=some (v2)):Spec (lim Tryz.prog) 142 [.v (.float .f64 v1)] ⟨[.v (.float .f64 v2)],[]⟩:=by
 unfold yY at hr
 have T:=y16
 apply Spec.fn Tryz.func142 rfl
 focus (simp[Tryz.f142]<;>exact rfl)
 focus
  refine wa_ T (g:=?_)
  obtain⟨v3,h1,hr⟩:=bs hr
  apply TO.fb (wn T) rfl ex92 (by simp only[z1,z3,zl]<;>rfl) h1 rfl
  repeat exact sd T
  refine wa_ T (g:=?_)
  apply TO.pop1 (wn T) (vN rfl rfl (by decide))
  repeat exact sd T
  refine wa_ T (g:=?_)
  apply TO.ex (wn T) rfl ex146 (by simp only[z1,z3,zl];exact rfl) rfl rfl (rfl) rfl rfl rfl
  repeat exact sd T
  refine wa_ T (g:=?_)
  cases hr
  refine⟨.inr rfl,_,(ry T),?_⟩
  exact wr [] rfl .nil
 rfl
theorem Dh{v1:Nat}{v2:Int}{v3:Bool}(hr:pF v1 v2=some (v3)):Spec (lim Tryz.prog) 135 [.v (.float .f64 v1),.v (.int .i64 v2)] ⟨[.v (.bool v3)],[]⟩:=by
 unfold pF at hr
 have T:=trivial
 apply Spec.fn Tryz.func135 rfl
 focus (simp[Tryz.f135]<;>exact rfl)
 focus
  refine wa_ T (g:=?_)
  rcases ifs hr with⟨h1,hr⟩|⟨h1,hr⟩
  ·have T:=an h1 T
   refine wa_ T (g:=?_)
   obtain⟨v4,h2,hr⟩:=bs hr
   apply TO.cal (wn T) rfl aBH (Hb h2) rfl rfl rfl
   repeat exact sd T
   refine wa_ T (g:=?_)
   apply TO.pop1 (wn T) (eS rfl rfl (by decide))
   repeat exact sd T
   refine wa_ T (g:=?_)
   cases hr
   refine⟨.inr rfl,_,(ry T),?_⟩
   exact wk_ T [] rfl .nil
  ·have T:=an h1 T
   refine wa_ T (g:=?_)
   rcases ifs hr with⟨h3,hr⟩|⟨h3,hr⟩
   ·have T:=an h3 T
    refine wa_ T (g:=?_)
    apply TO.pop1 (wn T) (Ql rfl)
    repeat exact sd T
    refine wa_ T (g:=?_)
    apply TO.pop1 (wn T) (eS rfl rfl (by decide))
    repeat exact sd T
    refine wa_ T (g:=?_)
    cases hr
    refine⟨.inr rfl,_,(ry T),?_⟩
    exact wk_ T [] rfl .nil
   ·have T:=an h3 T
    refine wa_ T (g:=?_)
    apply TO.pop1 (wn T) (eS rfl rfl (by decide))
    repeat exact sd T
    refine wa_ T (g:=?_)
    cases hr
    refine⟨.inr rfl,_,(ry T),?_⟩
    exact wk_ T [] rfl .nil
 rfl
def y17:=an @un36 <| @un81
theorem rZ{v1:Nat}{v2:Bool}(hr:jM v1=some (v2)):Spec (lim Tryz.prog) 119 [.v (.float .f32 v1)] ⟨[.v (.bool v2)],[]⟩:=by
 unfold jM at hr
 have T:=y17
 apply Spec.fn Tryz.func119 rfl
 focus (simp[Tryz.f119]<;>exact rfl)
 focus
  refine wa_ T (g:=?_)
  obtain⟨v3,h1,hr⟩:=bs hr
  apply TO.pop1 (wn T) (qK un36 un81 rfl h1)
  repeat exact sd T
  refine wa_ T (g:=?_)
  obtain⟨v4,h2,hr⟩:=bs hr
  apply TO.cal (wn T) rfl aBj (Dg h2) rfl rfl rfl
  repeat exact sd T
  refine wa_ T (g:=?_)
  apply TO.pop1 (wn T) (eS rfl rfl (by decide))
  repeat exact sd T
  refine wa_ T (g:=?_)
  rcases ifs hr with⟨h3,hr⟩|⟨h3,hr⟩
  ·have T:=an h3 T
   refine wa_ T (g:=?_)
   obtain⟨v5,h4,hr⟩:=bs hr
   apply TO.cal (wn T) rfl aA5 (Dh h4) rfl rfl rfl
   repeat exact sd T
   refine wa_ T (g:=?_)
   apply TO.pop1 (wn T) (bS rfl)
   repeat exact sd T
   refine wa_ T (g:=?_)
   cases hr
   refine⟨.inr rfl,_,(ry T),?_⟩
   exact wk_ T [] rfl .nil
  ·have T:=an h3 T
   refine wa_ T (g:=?_)
   cases hr
   refine⟨.inr rfl,_,(ry T),?_⟩
   exact wk_ T [] rfl .nil
 rfl
theorem eM{v1:Nat}{v2:Nat}{v3:Bool}(hr:aW v1 v2=some (v3)):Spec (lim Tryz.prog) 120 [.v (.float .f32 v1),.v (.float .f32 v2)] ⟨[.v (.bool v3)],[]⟩:=by
 unfold aW at hr
 have T:=trivial
 apply Spec.fn Tryz.func120 rfl
 focus (simp[Tryz.f120]<;>exact rfl)
 focus
  refine wa_ T (g:=?_)
  apply TO.pop1 (wn T) (Ql rfl)
  repeat exact sd T
  refine wa_ T (g:=?_)
  apply TO.pop1 (wn T) (eS rfl rfl (by decide))
  repeat exact sd T
  refine wa_ T (g:=?_)
  rcases ifs hr with⟨h1,hr⟩|⟨h1,hr⟩
  ·have T:=an h1 T
   refine wa_ T (g:=?_)
   apply TO.pop1 (wn T) (eS rfl rfl (by decide))
   repeat exact sd T
   refine wa_ T (g:=?_)
   cases hr
   refine⟨.inr rfl,_,(ry T),?_⟩
   exact wk_ T [] rfl .nil
  ·have T:=an h1 T
   refine wa_ T (g:=?_)
   cases hr
   refine⟨.inr rfl,_,(ry T),?_⟩
   exact wk_ T [] rfl .nil
 rfl
def y18:=an @ag87 <| an @cs87 <| an @ok87 <| an @so131 <| an @aV <| @kM
theorem bB{v1:Bool}{v2:Int}{v3:Bool}{v4:Int}{v5:Int}(hr:aM v1 v2 v3 v4=some (v5)):Spec (lim Tryz.prog) 37 [.list 1 [[.func 91 [] [.fptr true [.v (.bool v1)] 0,.fptr true [.v (.int .i64 v2)] 0]],[.func 91 [] [.fptr true [.v (.bool v3)] 0,.fptr true [.v (.int .i64 v4)] 0]]]] ⟨[.v (.int .i64 v5)],[]⟩:=by
 unfold aM at hr
 have T:=y18
 apply Spec.fn Tryz.func37 rfl
 focus (simp[Tryz.f37]<;>exact rfl)
 focus
  refine wc_ T (g:=?_)
  refine TX.unroll ?_
  refine wI T (g:=?_)
  obtain⟨v6,h1,hr⟩:=bs hr
  apply TO.cal (wn T) rfl jU (aB h1) rfl rfl rfl
  repeat exact sd T
  refine wa_ T (g:=?_)
  rcases ifs hr with⟨h2,hr⟩|⟨h2,hr⟩
  ·have T:=an h2 T
   refine wa_ T (g:=?_)
   cases hr
   refine⟨.inr rfl,_,(ry T),?_⟩
   exact wk_ T [] rfl .nil
  ·have T:=an h2 T
   refine wa_ T (g:=?_)
   refine TX.unroll ?_
   refine wI T (g:=?_)
   obtain⟨v7,h3,hr⟩:=bs hr
   apply TO.cal (wn T) rfl jU (aB h3) rfl rfl rfl
   repeat exact sd T
   refine wa_ T (g:=?_)
   rcases ifs hr with⟨h4,hr⟩|⟨h4,hr⟩
   ·have T:=an h4 T
    refine wa_ T (g:=?_)
    cases hr
    refine⟨.inr rfl,_,(ry T),?_⟩
    exact wk_ T [] rfl .nil
   ·have T:=an h4 T
    refine wa_ T (g:=?_)
    refine TX.unroll ?_
    refine wa_ T (g:=?_)
    cases hr
    refine⟨.inr rfl,_,(ry T),?_⟩
    exact wk_ T [] rfl .nil
 rfl
end Go.Rex
namespace Go.Rex
open Go.Proofs
open Go Go.Rex Go.RowKit
set_option maxRecDepth 100000
set_option maxHeartbeats 1000000
def y19:=an @cs87 <| an @so131 <| @zc87
theorem yJ{v1:Nat}{v2:Nat}{v3:Int}(hr:mQ v1 v2=some (v3)):Spec (lim Tryz.prog) 85 [.v (.complex .f32 v1 v2)] ⟨[.v (.int .i64 v3)],[]⟩:=by
 unfold mQ at hr
 have T:=y19
 apply Spec.fn Tryz.func85 rfl
 focus (simp[Tryz.f85]<;>exact rfl)
 focus
  refine wa_ T (g:=?_)
  apply TO.pop1 (wn T) (vV rfl)
  repeat exact sd T
  refine wa_ T (g:=?_)
  apply TO.pop1 (wn T) (vE rfl)
  repeat exact sd T
  refine wa_ T (g:=?_)
  obtain⟨v4,h1,hr⟩:=bs hr
  apply TO.cal (wn T) rfl Ui (rZ h1) rfl rfl rfl
  repeat exact sd T
  refine wa_ T (g:=?_)
  apply TO.pop1 (wn T) (bS rfl)
  repeat exact sd T
  refine wa_ T (g:=?_)
  rcases ifs hr with⟨h2,hr⟩|⟨h2,hr⟩
  ·have T:=an h2 T
   refine wa_ T (g:=?_)
   obtain⟨v5,h3,hr⟩:=bs hr
   apply TO.cal (wn T) rfl Ui (rZ h3) rfl rfl rfl
   repeat exact sd T
   refine wa_ T (g:=?_)
   apply TO.pop1 (wn T) (bS rfl)
   repeat exact sd T
   refine wa_ T (g:=?_)
   obtain⟨⟨v6,v7⟩,h4,hr⟩:=bs hr
   try dsimp only at hr
   apply TO.cal (wn T) rfl iF (aE h4) rfl rfl rfl
   repeat exact sd T
   refine wa_ T (g:=?_)
   obtain⟨v8,h5,hr⟩:=bs hr
   apply TO.cal (wn T) rfl Dl (eM h5) rfl rfl rfl
   repeat exact sd T
   refine wa_ T (g:=?_)
   apply TO.pop1 (wn T) (bS rfl)
   repeat exact sd T
   refine wa_ T (g:=?_)
   rcases ifs hr with⟨h6,hr⟩|⟨h6,hr⟩
   ·have T:=an h6 T
    refine wa_ T (g:=?_)
    obtain⟨v9,h7,hr⟩:=bs hr
    apply TO.cal (wn T) rfl Dl (eM h7) rfl rfl rfl
    repeat exact sd T
    refine wa_ T (g:=?_)
    apply TO.pop1 (wn T) (bS rfl)
    repeat exact sd T
    refine wa_ T (g:=?_)
    obtain⟨⟨v10,v11⟩,h8,hr⟩:=bs hr
    try dsimp only at hr
    apply TO.cal (wn T) rfl iF (aE h8) rfl rfl rfl
    repeat exact sd T
    refine we_ T (g:=?_)
    obtain⟨v12,h9,hr⟩:=bs hr
    apply TO.cal (wn T) rfl nL (bB h9) rfl rfl rfl
    repeat exact sd T
    refine wa_ T (g:=?_)
    cases hr
    refine⟨.inr rfl,_,(ry T),?_⟩
    exact wk_ T [] rfl .nil
   ·have T:=an h6 T
    refine wa_ T (g:=?_)
    obtain⟨⟨v13,v14⟩,h10,hr⟩:=bs hr
    try dsimp only at hr
    apply TO.cal (wn T) rfl iF (aE h10) rfl rfl rfl
    repeat exact sd T
    refine we_ T (g:=?_)
    obtain⟨v15,h11,hr⟩:=bs hr
    apply TO.cal (wn T) rfl nL (bB h11) rfl rfl rfl
    repeat exact sd T
    refine wa_ T (g:=?_)
    cases hr
    refine⟨.inr rfl,_,(ry T),?_⟩
    exact wk_ T [] rfl .nil
  ·have T:=an h2 T
   refine wa_ T (g:=?_)
   obtain⟨⟨v16,v17⟩,h12,hr⟩:=bs hr
   try dsimp only at hr
   apply TO.cal (wn T) rfl iF (aE h12) rfl rfl rfl
   repeat exact sd T
   refine wa_ T (g:=?_)
   obtain⟨v18,h13,hr⟩:=bs hr
   apply TO.cal (wn T) rfl Dl (eM h13) rfl rfl rfl
   repeat exact sd T
   refine wa_ T (g:=?_)
   apply TO.pop1 (wn T) (bS rfl)
   repeat exact sd T
   refine wa_ T (g:=?_)
   rcases ifs hr with⟨h14,hr⟩|⟨h14,hr⟩
   ·have T:=an h14 T
    refine wa_ T (g:=?_)
    obtain⟨v19,h15,hr⟩:=bs hr
    apply TO.cal (wn T) rfl Dl (eM h15) rfl rfl rfl
    repeat exact sd T
    refine wa_ T (g:=?_)
    apply TO.pop1 (wn T) (bS rfl)
    repeat exact sd T
    refine wa_ T (g:=?_)
    obtain⟨⟨v20,v21⟩,h16,hr⟩:=bs hr
    try dsimp only at hr
    apply TO.cal (wn T) rfl iF (aE h16) rfl rfl rfl
    repeat exact sd T
    refine we_ T (g:=?_)
    obtain⟨v22,h17,hr⟩:=bs hr
    apply TO.cal (wn T) rfl nL (bB h17) rfl rfl rfl
    repeat exact sd T
    refine wa_ T (g:=?_)
    cases hr
    refine⟨.inr rfl,_,(ry T),?_⟩
    exact wk_ T [] rfl .nil
   ·have T:=an h14 T
    refine wa_ T (g:=?_)
    obtain⟨⟨v23,v24⟩,h18,hr⟩:=bs hr
    try dsimp only at hr
    apply TO.cal (wn T) rfl iF (aE h18) rfl rfl rfl
    repeat exact sd T
    refine we_ T (g:=?_)
    obtain⟨v25,h19,hr⟩:=bs hr
    apply TO.cal (wn T) rfl nL (bB h19) rfl rfl rfl
    repeat exact sd T
    refine wa_ T (g:=?_)
    cases hr
    refine⟨.inr rfl,_,(ry T),?_⟩
    exact wk_ T [] rfl .nil
 rfl
end Go.Rex
namespace Go.Rex
open Go.Proofs
open Go Go.Rex Go.RowKit
set_option maxRecDepth 100000
set_option maxHeartbeats 200000
def y20:=an @ag32 <| an @ag59 <| an @cs59 <| an @ok59 <| @so32
theorem qL{v1:Int}{v2:(List (Nat×Nat))}{v3:Int}(hr:gA v1 v2=some (v3)):Spec (lim Tryz.prog) 84 [.v (.int .i64 v1),.fptr true [.list 1 (v2.map e_c)] 0] ⟨[.v (.int .i64 v3)],[]⟩:=by
 unfold gA at hr
 have T:=an y20 <| @e_c.eq_1
 apply Spec.fn Tryz.func84 rfl
 focus (simp[Tryz.f84]<;>exact rfl)
 focus
  refine wA T (g:=?_)
  obtain⟨⟨v4,v5⟩,h1,hr⟩:=bs hr
  try dsimp only at hr
  have T:=an (gx e_c h1) T
  refine wA T (g:=?_)
  obtain⟨v6,h2,hr⟩:=bs hr
  apply TO.cal (wn T) rfl aC8 (yJ h2) rfl rfl rfl
  repeat exact sd T
  refine wa_ T (g:=?_)
  cases hr
  refine⟨.inr rfl,_,(ry T),?_⟩
  exact wr [] rfl .nil
 rfl
def y21:=an @ag118 <| an @ag3 <| @aV
theorem tU{v1:Int}{v2:(List (Nat×Nat))}{v3:Int}(hr:jZ v1 v2=some (v3)):Spec (lim Tryz.prog) 103 [.fptr true [.v (.int .i64 v1)] 0,.fptr true [.func 84 [] [.fptr true [.list 1 (v2.map e_c)] 0]] 0] ⟨[.v (.int .i64 v3)],[]⟩:=by
 unfold jZ at hr
 have T:=an y21 <| @e_c.eq_1
 apply Spec.fn Tryz.func103 rfl
 focus (simp[Tryz.f103]<;>exact rfl)
 focus
  refine wA T (g:=?_)
  obtain⟨v8,h7,hr⟩:=bs hr
  refine TX.loopE (step:=bK v1 v2) (x:=0) h7 (fun v4=>⟨.U::.fptr true [.func 84 [] [.fptr true [.list 1 (v2.map e_c)] 0]] 0::.U::.U::.U::.v (.int .i64 v1)::.v (.int .i64 v4)::.U::.U::.U::.U::.U::.U::.U::.U::.U::[],[]⟩) (fun e=>match e with|(.inl v6)=>(.ret,⟨.U::.U::.v (.int .i64 v6)::.U::.U::.U::.U::.U::.U::.U::.U::.U::.U::.U::.U::.U::[],[]⟩)|(.inr _)=>(.exit 0,⟨.U::.U::.U::.U::.U::.U::.U::.U::.U::.U::.U::.U::.U::.U::.U::.U::[],[]⟩)) ?_ ?_ ?_ ?_
  ·rintro v4 v0 hr
   dsimp only[bK] at hr
   try dsimp only
   refine wa_ T (g:=?_)
   rcases ifs hr with⟨h4,hr⟩|⟨h4,hr⟩
   ·have T:=an h4 T
    refine wA T (g:=?_)
    obtain⟨v7,h5,hr⟩:=bs hr
    apply TO.cal (wn T) rfl aCB (qL h5) rfl rfl rfl
    repeat exact sd T
    refine wa_ T (g:=?_)
    rcases ifs hr with⟨h6,hr⟩|⟨h6,hr⟩
    ·have T:=an h6 T
     refine wa_ T (g:=?_)
     cases hr
     refine⟨rfl,?_⟩
     exact wk_ T [] rfl .nil
    ·have T:=an h6 T
     refine wa_ T (g:=?_)
     cases hr
     refine⟨rfl,?_⟩
     exact wk_ T [] rfl .nil
   ·have T:=an h4 T
    refine wa_ T (g:=?_)
    cases hr
    refine⟨rfl,?_⟩
    exact wk_ T [] rfl .nil
  ·intro e h;rcases e with _|e<;>cases h
  ·try dsimp only
   rcases v8 with v9|_
   ·try dsimp only at hr
    try dsimp only
    refine wa_ T (g:=?_)
    cases hr
    refine⟨.inr rfl,_,(ry T),?_⟩
    exact wr [] rfl .nil
   ·try dsimp only at hr
    try dsimp only
    refine wa_ T (g:=?_)
    cases hr
    refine⟨.inr rfl,_,(ry T),?_⟩
    exact wr [] rfl .nil
  ·try dsimp only
   exact wr [] rfl .nil
 rfl
def y22:=an @ag87 <| an @cs87 <| an @ok87 <| an @so131 <| an @aV <| an @kM <| @oH
theorem rY{v1:Bool}{v2:Int}{v3:Bool}{v4:Int}{v5:Int}{v6:(List (Nat×Nat))}{v7:Int}(hr:iU v1 v2 v3 v4 v5 v6=some (v7)):Spec (lim Tryz.prog) 37 [.list 1 [[.func 91 [] [.fptr true [.v (.bool v1)] 0,.fptr true [.v (.int .i64 v2)] 0]],[.func 91 [] [.fptr true [.v (.bool v3)] 0,.fptr true [.v (.int .i64 v4)] 0]],[.func 103 [] [.fptr true [.v (.int .i64 v5)] 0,.fptr true [.func 84 [] [.fptr true [.list 1 (v6.map e_c)] 0]] 0]]]] ⟨[.v (.int .i64 v7)],[]⟩:=by
 unfold iU at hr
 have T:=an y22 <| @e_c.eq_1
 apply Spec.fn Tryz.func37 rfl
 focus (simp[Tryz.f37]<;>exact rfl)
 focus
  refine wc_ T (g:=?_)
  refine TX.unroll ?_
  refine wI T (g:=?_)
  obtain⟨v8,h1,hr⟩:=bs hr
  apply TO.cal (wn T) rfl jU (aB h1) rfl rfl rfl
  repeat exact sd T
  refine wa_ T (g:=?_)
  rcases ifs hr with⟨h2,hr⟩|⟨h2,hr⟩
  ·have T:=an h2 T
   refine wa_ T (g:=?_)
   cases hr
   refine⟨.inr rfl,_,(ry T),?_⟩
   exact wk_ T [] rfl .nil
  ·have T:=an h2 T
   refine wa_ T (g:=?_)
   refine TX.unroll ?_
   refine wI T (g:=?_)
   obtain⟨v9,h3,hr⟩:=bs hr
   apply TO.cal (wn T) rfl jU (aB h3) rfl rfl rfl
   repeat exact sd T
   refine wa_ T (g:=?_)
   rcases ifs hr with⟨h4,hr⟩|⟨h4,hr⟩
   ·have T:=an h4 T
    refine wa_ T (g:=?_)
    cases hr
    refine⟨.inr rfl,_,(ry T),?_⟩
    exact wk_ T [] rfl .nil
   ·have T:=an h4 T
    refine wa_ T (g:=?_)
    refine TX.unroll ?_
    refine wI T (g:=?_)
    obtain⟨v10,h5,hr⟩:=bs hr
    apply TO.cal (wn T) rfl Mj (tU h5) rfl rfl rfl
    repeat exact sd T
    refine wa_ T (g:=?_)
    rcases ifs hr with⟨h6,hr⟩|⟨h6,hr⟩
    ·have T:=an h6 T
     refine wa_ T (g:=?_)
     cases hr
     refine⟨.inr rfl,_,(ry T),?_⟩
     exact wk_ T [] rfl .nil
    ·have T:=an h6 T
     refine wa_ T (g:=?_)
     refine TX.unroll ?_
     refine wa_ T (g:=?_)
     cases hr
     refine⟨.inr rfl,_,(ry T),?_⟩
     exact wk_ T [] rfl .nil
 rfl
def y23:=an @ag32 <| an @cs87 <| an @so131 <| an @so32 <| @zc87
theorem fA{v1:(List (Nat×Nat))}{v2:Int}(hr:bT v1=some (v2)):Spec (lim Tryz.prog) 83 [.fptr true [.list 1 (v1.map e_c)] 0] ⟨[.v (.int .i64 v2)],[]⟩:=by
 unfold bT at hr
 have T:=an y23 <| @e_c.eq_1
 apply Spec.fn Tryz.func83 rfl
 focus (simp[Tryz.f83]<;>exact rfl)
 focus
  refine wC T (g:=?_)
  obtain⟨⟨v3,v4⟩,h1,hr⟩:=bs hr
  try dsimp only at hr
  apply TD.cal (wn T) rfl iF (aE h1) rfl rfl rfl
  repeat exact sd T
  refine wC T (g:=?_)
  obtain⟨⟨v5,v6⟩,h2,hr⟩:=bs hr
  try dsimp only at hr
  apply TD.cal (wn T) rfl iF (aE h2) rfl rfl rfl
  repeat exact sd T
  refine wC T (g:=?_)
  obtain⟨⟨v7,v8⟩,h3,hr⟩:=bs hr
  try dsimp only at hr
  apply TD.cal (wn T) rfl Rq (vT h3) rfl rfl rfl
  repeat exact sd T
  refine we_ T (g:=?_)
  obtain⟨v9,h4,hr⟩:=bs hr
  apply TD.cal (wn T) rfl nL (rY h4) rfl rfl rfl
  repeat exact sd T
  refine wa_ T (g:=?_)
  cases hr
  refine⟨.inr rfl,_,(ry T),?_⟩
  exact wr [] rfl .nil
 rfl
theorem cF{v1:Int}{v2:Int}{v3:Int}{v4:Bool}{v5:Int}(hr:bV v1 v2 v3=some (v4,v5)):Spec (lim Tryz.prog) 49 [.v (.int .i64 v1),.v (.int .i64 v2),.v (.int .i64 v3)] ⟨[.func 91 [] [.fptr true [.v (.bool v4)] 0,.fptr true [.v (.int .i64 v5)] 0]],[]⟩:=by
 unfold bV at hr
 have T:=trivial
 apply Spec.fn Tryz.func49 rfl
 focus (simp[Tryz.f49]<;>exact rfl)
 focus
  refine wa_ T (g:=?_)
  rcases ifs hr with⟨h1,hr⟩|⟨h1,hr⟩
  ·have T:=an h1 T
   refine wa_ T (g:=?_)
   obtain⟨⟨v6,v7⟩,h2,hr⟩:=bs hr
   try dsimp only at hr
   apply TO.cal (wn T) rfl iF (aE h2) rfl rfl rfl
   repeat exact sd T
   refine wa_ T (g:=?_)
   cases hr
   refine⟨.inr rfl,_,(ry T),?_⟩
   exact wk_ T [] rfl .nil
  ·have T:=an h1 T
   refine wa_ T (g:=?_)
   obtain⟨⟨v8,v9⟩,h3,hr⟩:=bs hr
   try dsimp only at hr
   apply TO.cal (wn T) rfl iF (aE h3) rfl rfl rfl
   repeat exact sd T
   refine wa_ T (g:=?_)
   cases hr
   refine⟨.inr rfl,_,(ry T),?_⟩
   exact wk_ T [] rfl .nil
 rfl
theorem vP{v1:Int}{v2:(List Int)}{v3:Int}{v4:Int}{v5:Int}{v6:(List Int)}{v7:Int}{v8:Int}(hr:nC v1 v2 v3 v4=some (v5,v6,v7,v8)):Spec (lim Tryz.prog) 68 [.v (.int .i64 v1),.func 136 [] [.fptr true [.list 1 (v2.map e_i)] 0,.fptr true [.v (.int .i64 v3)] 0,.fptr true [.v (.int .i64 v4)] 0]] ⟨[.func 103 [] [.fptr true [.v (.int .i64 v5)] 0,.fptr true [.func 136 [] [.fptr true [.list 1 (v6.map e_i)] 0,.fptr true [.v (.int .i64 v7)] 0,.fptr true [.v (.int .i64 v8)] 0]] 0]],[]⟩:=by
 unfold nC at hr
 have T:=@e_i.eq_1
 apply Spec.fn Tryz.func68 rfl
 focus (simp[Tryz.f68]<;>exact rfl)
 focus
  refine wb_ T (g:=?_)
  cases hr
  refine⟨.inr rfl,_,(ry T),?_⟩
  exact wr [] rfl .nil
 rfl
def y24:=an @ag24 <| @so24
theorem vU{v1:(List Int)}{v2:Int}{v3:Int}{v4:Int}{v5:(List Int)}{v6:Int}{v7:Int}(hr:nB v1 v2 v3=some (v4,v5,v6,v7)):Spec (lim Tryz.prog) 121 [.list 1 (v1.map e_i),.v (.int .i64 v2),.v (.int .i64 v3)] ⟨[.func 103 [] [.fptr true [.v (.int .i64 v4)] 0,.fptr true [.func 136 [] [.fptr true [.list 1 (v5.map e_i)] 0,.fptr true [.v (.int .i64 v6)] 0,.fptr true [.v (.int .i64 v7)] 0]] 0]],[]⟩:=by
 unfold nB at hr
 have T:=an y24 <| @e_i.eq_1
 apply Spec.fn Tryz.func121 rfl
 focus (simp[Tryz.f121]<;>exact rfl)
 focus
  refine wD T (g:=?_)
  obtain⟨⟨v8,v9,v10,v11⟩,h1,hr⟩:=bs hr
  try dsimp only at hr
  apply TO.cal (wn T) rfl Rq (vP h1) rfl rfl rfl
  repeat exact sd T
  refine wa_ T (g:=?_)
  cases hr
  refine⟨.inr rfl,_,(ry T),?_⟩
  exact wr [] rfl .nil
 rfl
def y25:=an @ag3 <| an @cs3 <| an @ok3 <| an @so24 <| @aV
theorem sC{v1:(List Int)}{v2:Int}{v3:Int}(hr:jG v1 v2=some (v3)):Spec (lim Tryz.prog) 137 [.list 1 (v1.map e_i),.v (.int .i64 v2)] ⟨[.v (.int .i64 v3)],[]⟩:=by
 unfold jG at hr
 have T:=an y25 <| @e_i.eq_1
 apply Spec.fn Tryz.func137 rfl
 focus (simp[Tryz.f137]<;>exact rfl)
 focus
  refine wc_ T (g:=?_)
  obtain⟨v8,h7,hr⟩:=bs hr
  refine TX.loopE (step:=cL v1 v2) (x:=0) h7 (fun v4=>⟨.list 1 (v1.map e_i)::.v (.int .i64 v2)::.U::.U::.U::.U::.U::.v (.int .i64 (v1.length:Int))::.v (.int .i64 v4)::.U::.U::.U::.U::.U::.U::.U::.U::.U::.U::[],[]⟩) (fun e=>match e with|(.inl v6)=>(.ret,⟨.U::.U::.U::.U::.v (.int .i64 v6)::.U::.U::.U::.U::.U::.U::.U::.U::.U::.U::.U::.U::.U::.U::[],[]⟩)|(.inr _)=>(.exit 0,⟨.U::.U::.U::.U::.U::.U::.U::.U::.U::.U::.U::.U::.U::.U::.U::.U::.U::.U::.U::[],[]⟩)) ?_ ?_ ?_ ?_
  ·rintro v4 v0 hr
   dsimp only[cL] at hr
   try dsimp only
   refine wa_ T (g:=?_)
   rcases ifs hr with⟨h4,hr⟩|⟨h4,hr⟩
   ·have T:=an h4 T
    refine wa_ T (g:=?_)
    obtain⟨v7,h5,hr⟩:=bs hr
    have T:=an (gx e_i h5) T
    refine wA T (g:=?_)
    rcases ifs hr with⟨h6,hr⟩|⟨h6,hr⟩
    ·have T:=an h6 T
     refine wa_ T (g:=?_)
     cases hr
     refine⟨rfl,?_⟩
     exact wk_ T [] rfl .nil
    ·have T:=an h6 T
     refine wa_ T (g:=?_)
     cases hr
     refine⟨rfl,?_⟩
     exact wk_ T [] rfl .nil
   ·have T:=an h4 T
    refine wa_ T (g:=?_)
    cases hr
    refine⟨rfl,?_⟩
    exact wk_ T [] rfl .nil
  ·intro e h;rcases e with _|e<;>cases h
  ·try dsimp only
   rcases v8 with v9|_
   ·try dsimp only at hr
    try dsimp only
    refine wa_ T (g:=?_)
    cases hr
    refine⟨.inr rfl,_,(ry T),?_⟩
    exact wr [] rfl .nil
   ·try dsimp only at hr
    try dsimp only
    refine wa_ T (g:=?_)
    cases hr
    refine⟨.inr rfl,_,(ry T),?_⟩
    exact wr [] rfl .nil
  ·try dsimp only
   exact wr [] rfl .nil
 rfl
theorem qN{v1:(List Int)}{v2:Int}{v3:Bool}(hr:dR v1 v2=some (v3)):Spec (lim Tryz.prog) 122 [.list 1 (v1.map e_i),.v (.int .i64 v2)] ⟨[.v (.bool v3)],[]⟩:=by
 unfold dR at hr
 have T:=@e_i.eq_1
 apply Spec.fn Tryz.func122 rfl
 focus (simp[Tryz.f122]<;>exact rfl)
 focus
  refine wa_ T (g:=?_)
  obtain⟨v4,h1,hr⟩:=bs hr
  apply TO.cal (wn T) rfl aA4 (sC h1) rfl rfl rfl
  repeat exact sd T
  refine wa_ T (g:=?_)
  cases hr
  refine⟨.inr rfl,_,(ry T),?_⟩
  exact wr [] rfl .nil
 rfl
def y26:=an @ag24 <| an @ag3 <| an @cs3 <| an @cs87 <| an @ok3 <| an @so131 <| an @so24 <| @zc87
theorem qM{v1:Int}{v2:(List Int)}{v3:Int}{v4:Int}{v5:Int}(hr:dP v1 v2 v3 v4=some (v5)):Spec (lim Tryz.prog) 136 [.v (.int .i64 v1),.fptr true [.list 1 (v2.map e_i)] 0,.fptr true [.v (.int .i64 v3)] 0,.fptr true [.v (.int .i64 v4)] 0] ⟨[.v (.int .i64 v5)],[]⟩:=by
 unfold dP at hr
 have T:=an y26 <| @e_i.eq_1
 apply Spec.fn Tryz.func136 rfl
 focus (simp[Tryz.f136]<;>exact rfl)
 focus
  refine wA T (g:=?_)
  obtain⟨v6,h1,hr⟩:=bs hr
  have T:=an (gx e_i h1) T
  refine wA T (g:=?_)
  obtain⟨⟨v7,v8⟩,h2,hr⟩:=bs hr
  try dsimp only at hr
  apply TD.cal (wn T) rfl uC (cF h2) rfl rfl rfl
  repeat exact sd T
  refine wa_ T (g:=?_)
  rcases ifs hr with⟨h3,hr⟩|⟨h3,hr⟩
  ·have T:=an h3 T
   refine wA T (g:=?_)
   obtain⟨v9,h4,hr⟩:=bs hr
   have T:=an (gx e_i h4) T
   refine wA T (g:=?_)
   obtain⟨⟨v10,v11⟩,h5,hr⟩:=bs hr
   try dsimp only at hr
   apply TD.cal (wn T) rfl iF (aE h5) rfl rfl rfl
   repeat exact sd T
   refine we_ T (g:=?_)
   obtain⟨v12,h6,hr⟩:=bs hr
   apply TD.cal (wn T) rfl nL (bB h6) rfl rfl rfl
   repeat exact sd T
   refine wa_ T (g:=?_)
   cases hr
   refine⟨.inr rfl,_,(ry T),?_⟩
   exact wk_ T [] rfl .nil
  ·have T:=an h3 T
   refine wa_ T (g:=?_)
   obtain⟨⟨v13,v14⟩,h7,hr⟩:=bs hr
   try dsimp only at hr
   apply TD.cal (wn T) rfl iF (aE h7) rfl rfl rfl
   repeat exact sd T
   refine we_ T (g:=?_)
   obtain⟨v15,h8,hr⟩:=bs hr
   apply TD.cal (wn T) rfl nL (bB h8) rfl rfl rfl
   repeat exact sd T
   refine wa_ T (g:=?_)
   cases hr
   refine⟨.inr rfl,_,(ry T),?_⟩
   exact wk_ T [] rfl .nil
 rfl
def y27:=an @ag118 <| an @ag3 <| @aV
theorem tL{v1:Int}{v2:(List Int)}{v3:Int}{v4:Int}{v5:Int}(hr:kE v1 v2 v3 v4=some (v5)):Spec (lim Tryz.prog) 103 [.fptr true [.v (.int .i64 v1)] 0,.fptr true [.func 136 [] [.fptr true [.list 1 (v2.map e_i)] 0,.fptr true [.v (.int .i64 v3)] 0,.fptr true [.v (.int .i64 v4)] 0]] 0] ⟨[.v (.int .i64 v5)],[]⟩:=by
 unfold kE at hr
 have T:=an y27 <| @e_i.eq_1
 apply Spec.fn Tryz.func103 rfl
 focus (simp[Tryz.f103]<;>exact rfl)
 focus
  refine wA T (g:=?_)
  obtain⟨v10,h7,hr⟩:=bs hr
  refine TX.loopE (step:=dD v1 v2 v3 v4) (x:=0) h7 (fun v6=>⟨.U::.fptr true [.func 136 [] [.fptr true [.list 1 (v2.map e_i)] 0,.fptr true [.v (.int .i64 v3)] 0,.fptr true [.v (.int .i64 v4)] 0]] 0::.U::.U::.U::.v (.int .i64 v1)::.v (.int .i64 v6)::.U::.U::.U::.U::.U::.U::.U::.U::.U::[],[]⟩) (fun e=>match e with|(.inl v8)=>(.ret,⟨.U::.U::.v (.int .i64 v8)::.U::.U::.U::.U::.U::.U::.U::.U::.U::.U::.U::.U::.U::[],[]⟩)|(.inr _)=>(.exit 0,⟨.U::.U::.U::.U::.U::.U::.U::.U::.U::.U::.U::.U::.U::.U::.U::.U::[],[]⟩)) ?_ ?_ ?_ ?_
  ·rintro v6 v0 hr
   dsimp only[dD] at hr
   try dsimp only
   refine wa_ T (g:=?_)
   rcases ifs hr with⟨h4,hr⟩|⟨h4,hr⟩
   ·have T:=an h4 T
    refine wA T (g:=?_)
    obtain⟨v9,h5,hr⟩:=bs hr
    apply TO.cal (wn T) rfl aBA (qM h5) rfl rfl rfl
    repeat exact sd T
    refine wa_ T (g:=?_)
    rcases ifs hr with⟨h6,hr⟩|⟨h6,hr⟩
    ·have T:=an h6 T
     refine wa_ T (g:=?_)
     cases hr
     refine⟨rfl,?_⟩
     exact wk_ T [] rfl .nil
    ·have T:=an h6 T
     refine wa_ T (g:=?_)
     cases hr
     refine⟨rfl,?_⟩
     exact wk_ T [] rfl .nil
   ·have T:=an h4 T
    refine wa_ T (g:=?_)
    cases hr
    refine⟨rfl,?_⟩
    exact wk_ T [] rfl .nil
  ·intro e h;rcases e with _|e<;>cases h
  ·try dsimp only
   rcases v10 with v11|_
   ·try dsimp only at hr
    try dsimp only
    refine wa_ T (g:=?_)
    cases hr
    refine⟨.inr rfl,_,(ry T),?_⟩
    exact wr [] rfl .nil
   ·try dsimp only at hr
    try dsimp only
    refine wa_ T (g:=?_)
    cases hr
    refine⟨.inr rfl,_,(ry T),?_⟩
    exact wr [] rfl .nil
  ·try dsimp only
   exact wr [] rfl .nil
 rfl
end Go.Rex
namespace Go.Rex
open Go.Proofs
open Go Go.Rex Go.RowKit
set_option maxRecDepth 100000
set_option maxHeartbeats 1000000
def y28:=an @ag87 <| an @cs87 <| an @ok87 <| an @so131 <| an @aV <| an @kM <| an @oH <| @zM
theorem rK{v1:Bool}{v2:Int}{v3:Bool}{v4:Int}{v5:Int}{v6:(List Int)}{v7:Int}{v8:Int}{v9:Bool}{v10:Int}{v11:Int}(hr:iK v1 v2 v3 v4 v5 v6 v7 v8 v9 v10=some (v11)):Spec (lim Tryz.prog) 37 [.list 1 [[.func 91 [] [.fptr true [.v (.bool v1)] 0,.fptr true [.v (.int .i64 v2)] 0]],[.func 91 [] [.fptr true [.v (.bool v3)] 0,.fptr true [.v (.int .i64 v4)] 0]],[.func 103 [] [.fptr true [.v (.int .i64 v5)] 0,.fptr true [.func 136 [] [.fptr true [.list 1 (v6.map e_i)] 0,.fptr true [.v (.int .i64 v7)] 0,.fptr true [.v (.int .i64 v8)] 0]] 0]],[.func 91 [] [.fptr true [.v (.bool v9)] 0,.fptr true [.v (.int .i64 v10)] 0]]]] ⟨[.v (.int .i64 v11)],[]⟩:=by
 unfold iK at hr
 have T:=an y28 <| @e_i.eq_1
 apply Spec.fn Tryz.func37 rfl
 focus (simp[Tryz.f37]<;>exact rfl)
 focus
  refine wc_ T (g:=?_)
  refine TX.unroll ?_
  refine wI T (g:=?_)
  obtain⟨v12,h1,hr⟩:=bs hr
  apply TO.cal (wn T) rfl jU (aB h1) rfl rfl rfl
  repeat exact sd T
  refine wa_ T (g:=?_)
  rcases ifs hr with⟨h2,hr⟩|⟨h2,hr⟩
  ·have T:=an h2 T
   refine wa_ T (g:=?_)
   cases hr
   refine⟨.inr rfl,_,(ry T),?_⟩
   exact wk_ T [] rfl .nil
  ·have T:=an h2 T
   refine wa_ T (g:=?_)
   refine TX.unroll ?_
   refine wI T (g:=?_)
   obtain⟨v13,h3,hr⟩:=bs hr
   apply TO.cal (wn T) rfl jU (aB h3) rfl rfl rfl
   repeat exact sd T
   refine wa_ T (g:=?_)
   rcases ifs hr with⟨h4,hr⟩|⟨h4,hr⟩
   ·have T:=an h4 T
    refine wa_ T (g:=?_)
    cases hr
    refine⟨.inr rfl,_,(ry T),?_⟩
    exact wk_ T [] rfl .nil
   ·have T:=an h4 T
    refine wa_ T (g:=?_)
    refine TX.unroll ?_
    refine wI T (g:=?_)
    obtain⟨v14,h5,hr⟩:=bs hr
    apply TO.cal (wn T) rfl Mj (tL h5) rfl rfl rfl
    repeat exact sd T
    refine wa_ T (g:=?_)
    rcases ifs hr with⟨h6,hr⟩|⟨h6,hr⟩
    ·have T:=an h6 T
     refine wa_ T (g:=?_)
     cases hr
     refine⟨.inr rfl,_,(ry T),?_⟩
     exact wk_ T [] rfl .nil
    ·have T:=an h6 T
     refine wa_ T (g:=?_)
     refine TX.unroll ?_
     refine wI T (g:=?_)
     obtain⟨v15,h7,hr⟩:=bs hr
     apply TO.cal (wn T) rfl jU (aB h7) rfl rfl rfl
     repeat exact sd T
     refine wa_ T (g:=?_)
     rcases ifs hr with⟨h8,hr⟩|⟨h8,hr⟩
     ·have T:=an h8 T
      refine wa_ T (g:=?_)
      cases hr
      refine⟨.inr rfl,_,(ry T),?_⟩
      exact wk_ T [] rfl .nil
     ·have T:=an h8 T
      refine wa_ T (g:=?_)
      refine TX.unroll ?_
      refine wa_ T (g:=?_)
      cases hr
      refine⟨.inr rfl,_,(ry T),?_⟩
      exact wk_ T [] rfl .nil
 rfl
end Go.Rex
namespace Go.Rex
open Go.Proofs
open Go Go.Rex Go.RowKit
set_option maxRecDepth 100000
set_option maxHeartbeats 200000
def y29:=an @ag24 <| an @ag3 <| an @cs87 <| an @vK <| an @Bh <| an @so131 <| an @so24 <| @zc87
theorem sP{v1:Int}{v2:(List Int)}{v3:Int}(hr:gN v1 v2=some (v3)):Spec (lim Tryz.prog) 86 [.agg [.v (.int .i64 v1),.list 1 (v2.map e_i)]] ⟨[.v (.int .i64 v3)],[]⟩:=by
 unfold gN at hr
 have T:=an y29 <| @e_i.eq_1
 apply Spec.fn Tryz.func86 rfl
 focus (simp[Tryz.f86]<;>exact rfl)
 focus
  refine wB T (g:=?_)
  obtain⟨⟨v4,v5⟩,h1,hr⟩:=bs hr
  try dsimp only at hr
  apply TD.cal (wn T) rfl uC (cF h1) rfl rfl rfl
  repeat exact sd T
  refine wC T (g:=?_)
  obtain⟨⟨v6,v7⟩,h2,hr⟩:=bs hr
  try dsimp only at hr
  apply TD.cal (wn T) rfl iF (aE h2) rfl rfl rfl
  repeat exact sd T
  refine wA T (g:=?_)
  obtain⟨⟨v8,v9,v10,v11⟩,h3,hr⟩:=bs hr
  try dsimp only at hr
  apply TD.cal (wn T) rfl aBn (vU h3) rfl rfl rfl
  repeat exact sd T
  refine wA T (g:=?_)
  obtain⟨v12,h4,hr⟩:=bs hr
  apply TD.cal (wn T) rfl aBx (qN h4) rfl rfl rfl
  repeat exact sd T
  refine wa_ T (g:=?_)
  apply TD.pop1 (wn T) (bS rfl)
  repeat exact sd T
  refine wa_ T (g:=?_)
  obtain⟨⟨v13,v14⟩,h5,hr⟩:=bs hr
  try dsimp only at hr
  apply TD.cal (wn T) rfl iF (aE h5) rfl rfl rfl
  repeat exact sd T
  refine we_ T (g:=?_)
  obtain⟨v15,h6,hr⟩:=bs hr
  apply TD.cal (wn T) rfl nL (rK h6) rfl rfl rfl
  repeat exact sd T
  refine wa_ T (g:=?_)
  cases hr
  refine⟨.inr rfl,_,(ry T),?_⟩
  exact wr [] rfl .nil
 rfl
def y30:=an @ag26 <| an @cs26 <| an @Ro <| @ok26
theorem iD{v1:Int}{v2:(List Int)}{v3:Int}(hr:cC v1 v2=some (v3)):Spec (lim Tryz.prog) 39 [.agg [.v (.int .i64 v1),.list 1 (v2.map e_i)]] ⟨[.v (.int .i64 v3)],[]⟩:=by
 unfold cC at hr
 have T:=an y30 <| @e_i.eq_1
 apply Spec.fn Tryz.func39 rfl
 focus (simp[Tryz.f39]<;>exact rfl)
 focus
  refine wB T (g:=?_)
  obtain⟨v4,h1,hr⟩:=bs hr
  apply TO.cal (wn T) rfl aCb (sP h1) rfl rfl rfl
  repeat exact sd T
  refine wa_ T (g:=?_)
  cases hr
  refine⟨.inr rfl,_,(ry T),?_⟩
  exact wr [] rfl .nil
 rfl
def y31:=an @ag3 <| an @vK <| @Ro
theorem aL{v1:Int}{v2:(List Int)}{v3:Int}(hr:aC v1 v2=some (v3)):Spec (lim Tryz.prog) 43 [.agg [.v (.int .i64 v1),.list 1 (v2.map e_i)]] ⟨[.v (.int .i64 v3)],[]⟩:=by
 unfold aC at hr
 have T:=an y31 <| @e_i.eq_1
 apply Spec.fn Tryz.func43 rfl
 focus (simp[Tryz.f43]<;>exact rfl)
 focus
  refine wB T (g:=?_)
  obtain⟨v4,h1,hr⟩:=bs hr
  apply TO.pop1 (wn T) (xB rfl rfl (by decide) (h1))
  repeat exact sd T
  refine wa_ T (g:=?_)
  cases hr
  refine⟨.inr rfl,_,(ry T),?_⟩
  exact wr [] rfl .nil
 rfl
def y32:=an @ag3 <| an @ag84 <| an @cs84 <| @ok84
theorem cS{v1:Int}{v2:Int}{v3:(List Int)}{v4:Int}(hr:aQ v1 v2 v3=some (v4)):Spec (lim Tryz.prog) 87 [.fptr true [.v (.int .i64 v1)] 0,.fptr true [.v (.int .i64 v2),.list 1 (v3.map e_i)] 0] ⟨[.v (.int .i64 v4)],[]⟩:=by
 unfold aQ at hr
 have T:=an y32 <| @e_i.eq_1
 apply Spec.fn Tryz.func87 rfl
 focus (simp[Tryz.f87]<;>exact rfl)
 focus
  refine wA T (g:=?_)
  obtain⟨v5,h1,hr⟩:=bs hr
  apply TD.cal (wn T) rfl vH (aL h1) rfl rfl rfl
  repeat exact sd T
  refine wa_ T (g:=?_)
  obtain⟨⟨v6,v7⟩,h2,hr⟩:=bs hr
  try dsimp only at hr
  apply TD.cal (wn T) rfl uC (cF h2) rfl rfl rfl
  repeat exact sd T
  refine wa_ T (g:=?_)
  obtain⟨v8,h3,hr⟩:=bs hr
  apply TD.cal (wn T) rfl jU (aB h3) rfl rfl rfl
  repeat exact sd T
  refine wa_ T (g:=?_)
  cases hr
  refine⟨.inr rfl,_,(ry T),?_⟩
  exact wr [] rfl .nil
 rfl
def y33:=an @ag87 <| an @cs87 <| an @ok87 <| an @so131 <| an @aV <| an @kM <| @oH
theorem sA{v1:(List (Nat×Nat))}{v2:Int}{v3:(List Int)}{v4:Int}{v5:Int}{v6:(List Int)}{v7:Int}(hr:iS v1 v2 v3 v4 v5 v6=some (v7)):Spec (lim Tryz.prog) 37 [.list 1 [[.func 83 [] [.fptr true [.list 1 (v1.map e_c)] 0]],[.func 39 [.agg [.v (.int .i64 v2),.list 1 (v3.map e_i)]] []],[.func 87 [] [.fptr true [.v (.int .i64 v4)] 0,.fptr true [.v (.int .i64 v5),.list 1 (v6.map e_i)] 0]]]] ⟨[.v (.int .i64 v7)],[]⟩:=by
 unfold iS at hr
 have T:=an y33 <| an @e_c.eq_1 <| @e_i.eq_1
 apply Spec.fn Tryz.func37 rfl
 focus (simp[Tryz.f37]<;>exact rfl)
 focus
  refine wc_ T (g:=?_)
  refine TX.unroll ?_
  refine wI T (g:=?_)
  obtain⟨v8,h1,hr⟩:=bs hr
  apply TO.cal (wn T) rfl Le (fA h1) rfl rfl rfl
  repeat exact sd T
  refine wa_ T (g:=?_)
  rcases ifs hr with⟨h2,hr⟩|⟨h2,hr⟩
  ·have T:=an h2 T
   refine wa_ T (g:=?_)
   cases hr
   refine⟨.inr rfl,_,(ry T),?_⟩
   exact wk_ T [] rfl .nil
  ·have T:=an h2 T
   refine wa_ T (g:=?_)
   refine TX.unroll ?_
   refine wI T (g:=?_)
   obtain⟨v9,h3,hr⟩:=bs hr
   apply TO.cal (wn T) rfl Rj (iD h3) rfl rfl rfl
   repeat exact sd T
   refine wa_ T (g:=?_)
   rcases ifs hr with⟨h4,hr⟩|⟨h4,hr⟩
   ·have T:=an h4 T
    refine wa_ T (g:=?_)
    cases hr
    refine⟨.inr rfl,_,(ry T),?_⟩
    exact wk_ T [] rfl .nil
   ·have T:=an h4 T
    refine wa_ T (g:=?_)
    refine TX.unroll ?_
    refine wI T (g:=?_)
    obtain⟨v10,h5,hr⟩:=bs hr
    apply TO.cal (wn T) rfl Qx (cS h5) rfl rfl rfl
    repeat exact sd T
    refine wa_ T (g:=?_)
    rcases ifs hr with⟨h6,hr⟩|⟨h6,hr⟩
    ·have T:=an h6 T
     refine wa_ T (g:=?_)
     cases hr
     refine⟨.inr rfl,_,(ry T),?_⟩
     exact wk_ T [] rfl .nil
    ·have T:=an h6 T
     refine wa_ T (g:=?_)
     refine TX.unroll ?_
     refine wa_ T (g:=?_)
     cases hr
     refine⟨.inr rfl,_,(ry T),?_⟩
     exact wk_ T [] rfl .nil
 rfl
def y34:=an @ag115 <| an @cs115 <| an @ok115 <| an @st115 <| an @un3 <| an @un36 <| @zc115
theorem xP{v1:Nat}{v2:Nat}{v3:Int}{v4:Int}(hr:oT v1 v2=some (v3,v4)):Spec (lim Tryz.prog) 71 [.v (.complex .f32 v1 v2)] ⟨[.agg [.v (.int .i64 v3),.v (.int .i64 v4)]],[]⟩:=by
 unfold oT at hr
 have T:=y34
 apply Spec.fn Tryz.func71 rfl
 focus (simp[Tryz.f71]<;>exact rfl)
 focus
  refine wa_ T (g:=?_)
  apply TO.pop1 (wn T) (vV rfl)
  repeat exact sd T
  refine wa_ T (g:=?_)
  obtain⟨v5,h1,hr⟩:=bs hr
  apply TO.pop1 (wn T) (sU un36 un3 rfl h1)
  repeat exact sd T
  refine wa_ T (g:=?_)
  apply TO.pop1 (wn T) (vE rfl)
  repeat exact sd T
  refine wa_ T (g:=?_)
  obtain⟨v6,h2,hr⟩:=bs hr
  apply TO.pop1 (wn T) (sU un36 un3 rfl h2)
  repeat exact sd T
  refine wa_ T (g:=?_)
  cases hr
  refine⟨.inr rfl,_,(ry T),?_⟩
  exact wr [] rfl .nil
 rfl
def y35:=an @ag59 <| an @by115 <| an @cs115 <| an @cs59 <| an @ni90 <| an @ok59 <| an @so32 <| an @so90 <| an @zc115 <| @aV
theorem jJ{v1:(List (Nat×Nat))}{v2:(List (Int×Int))}(hr:bN v1=some (v2)):Spec (lim Tryz.prog) 42 [.list 1 (v1.map e_c)] ⟨[.lsl 0 0 v2.length],[.rows 2 (v2.map e_ii)]⟩:=by
 unfold bN at hr
 have T:=an y35 <| an @e_c.eq_1 <| @e_ii.eq_1
 apply Spec.fn Tryz.func42 rfl
 focus (simp[Tryz.f42]<;>exact rfl)
 focus
  refine wc_ T (g:=?_)
  apply TX.vt (α:=(Int×Int)) e_ii 3 2 rfl
  repeat exact sd T
  with_reducible apply TX.here
  refine wa_ T (g:=?_)
  obtain⟨v16,h9,hr⟩:=bs hr
  refine TX.loopE (step:=fK v1) (x:=(([]:List (Int×Int)),0)) h9 (fun (v3,v4)=>⟨.U::.U::.U::.lsl 0 0 v3.length::.U::.U::.list 1 (v1.map e_c)::.v (.int .i64 (v1.length:Int))::.v (.int .i64 v4)::.U::.U::.U::.U::.U::.U::.U::.U::.U::.U::[],[.rows 2 (v3.map e_ii)]⟩) (fun v10=>(.exit 0,⟨.U::.U::.U::.lsl 0 0 v10.length::.U::.U::.U::.U::.U::.U::.U::.U::.U::.U::.U::.U::.U::.U::.U::[],[.rows 2 (v10.map e_ii)]⟩)) ?_ ?_ ?_ ?_
  ·rintro⟨v3,v4⟩ v0 hr
   dsimp only[fK] at hr
   try dsimp only
   refine wa_ T (g:=?_)
   rcases ifs hr with⟨h5,hr⟩|⟨h5,hr⟩
   ·have T:=an h5 T
    refine wa_ T (g:=?_)
    obtain⟨⟨v11,v12⟩,h6,hr⟩:=bs hr
    try dsimp only at hr
    have h6m:=eD (f:=e_c) h6
    have h6l:=gC h6
    try simp only[List.length_set] at h6l
    have h6a:=gB h6
    have T:=an h6m T
    have T:=an h6l T
    have T:=an h6a T
    refine wA T (g:=?_)
    obtain⟨⟨v13,v14⟩,h7,hr⟩:=bs hr
    try dsimp only at hr
    apply TO.cal (wn T) rfl aCe (xP h7) rfl rfl rfl
    repeat exact sd T
    refine wa_ T (g:=?_)
    apply TO.bm e_ii ([(v13,v14)]:List (Int×Int)) (wn T) rfl (by simp only[zz,y35,e_c,e_ii,Nat.reduceAdd,Nat.reduceMul,Nat.reduceLeDiff,Nat.reduceEqDiff,tslice,tparts,h5,h6m,h6l,h6a];exact rfl) rfl
    repeat exact sd T
    refine wa_ T (g:=?_)
    obtain⟨v15,h8,hr⟩:=bs hr
    apply TO.ap (f:=e_ii) (xs:=v3) (ys:=([(v13,v14)]:List (Int×Int))) (wn T) rfl rfl (by first|rfl|simp only[List.length_set]) rfl rfl so90 ni90 zc115 rfl (by rw[by115];exact h8) (fun _=>⟨rfl,rfl,rfl⟩)
    repeat exact sd T
    refine wa_ T (g:=?_)
    cases hr
    refine⟨rfl,?_⟩
    exact wk_ T [some 0] rfl (.rows .nil rfl rfl)
   ·have T:=an h5 T
    refine wa_ T (g:=?_)
    cases hr
    refine⟨rfl,?_⟩
    exact wk_ T [some 0] rfl (.rows .nil rfl rfl)
  ·intro e h;cases h
  ·try dsimp only
   refine wa_ T (g:=?_)
   cases hr
   refine⟨.inr rfl,_,(ry T),?_⟩
   exact wr [some 0] rfl (.rows .nil rfl rfl)
  ·try dsimp only
   exact wr [some 0] rfl (.rows .nil rfl rfl)
 rfl
def y36:=an @ag115 <| an @ag3 <| an @cs115 <| an @xG <| an @xK <| an @ok115 <| an @st115 <| @zc115
theorem kK{v1:Int}{v2:Int}{v3:Int}{v4:Int}{v5:Int}{v6:Int}(hr:dA v1 v2 v3 v4=some (v5,v6)):Spec (lim Tryz.prog) 70 [.agg [.v (.int .i64 v1),.v (.int .i64 v2)],.agg [.v (.int .i64 v3),.v (.int .i64 v4)]] ⟨[.agg [.v (.int .i64 v5),.v (.int .i64 v6)]],[]⟩:=by
 unfold dA at hr
 have T:=y36
 apply Spec.fn Tryz.func70 rfl
 focus (simp[Tryz.f70]<;>exact rfl)
 focus
  refine wB T (g:=?_)
  cases hr
  refine⟨.inr rfl,_,(ry T),?_⟩
  exact wr [] rfl .nil
 rfl
def y37:=an @ag115 <| an @by115 <| an @cs115 <| an @ok115 <| an @so90 <| an @zc115 <| @aV
theorem mL{v1:(List (Int×Int))}{v2:Int}{v3:(List (Int×Int))}(hr:fS v1 v2=some (v3)):Spec (lim Tryz.prog) 41 [.list 2 (v1.map e_ii),.v (.int .i64 v2)] ⟨[.lsl 0 0 v3.length],[.rows 2 (v3.map e_ii)]⟩:=by
 unfold fS at hr
 have T:=an y37 <| @e_ii.eq_1
 apply Spec.fn Tryz.func41 rfl
 focus (simp[Tryz.f41]<;>exact rfl)
 focus
  refine wa_ T (g:=?_)
  obtain⟨v4,h1,hr⟩:=bs hr
  apply TO.mk e_ii h1 (wn T) rfl rfl so90 zc115 by115 rfl rfl rfl
  repeat exact sd T
  refine wc_ T (g:=?_)
  obtain⟨v20,h12,hr⟩:=bs hr
  refine TX.loopE (step:=eB v1 v2) (x:=(v4,0)) h12 (fun (v5,v6)=>⟨.U::.v (.int .i64 v2)::.U::.U::.U::.lsl 0 0 v5.length::.U::.U::.U::.U::.list 2 (v1.map e_ii)::.v (.int .i64 (v1.length:Int))::.v (.int .i64 v6)::.U::.U::.U::.U::.U::.U::.U::.U::.U::.U::.U::.U::.U::.U::.U::.U::.U::.U::.U::[],[.rows 2 (v5.map e_ii)]⟩) (fun v13=>(.exit 0,⟨.U::.U::.U::.U::.U::.lsl 0 0 v13.length::.U::.U::.U::.U::.U::.U::.U::.U::.U::.U::.U::.U::.U::.U::.U::.U::.U::.U::.U::.U::.U::.U::.U::.U::.U::.U::[],[.rows 2 (v13.map e_ii)]⟩)) ?_ ?_ ?_ ?_
  ·rintro⟨v5,v6⟩ v0 hr
   dsimp only[eB] at hr
   try dsimp only
   refine wa_ T (g:=?_)
   rcases ifs hr with⟨h7,hr⟩|⟨h7,hr⟩
   ·have T:=an h7 T
    refine wa_ T (g:=?_)
    obtain⟨⟨v14,v15⟩,h8,hr⟩:=bs hr
    try dsimp only at hr
    have T:=an (gx e_ii h8) T
    refine wA T (g:=?_)
    by_cases h9:v2=0
    ·rw[a9 h9] at hr
     cases hr
    ·rw[b6 h9] at hr
     have T:=an h9 T
     refine wa_ T (g:=?_)
     obtain⟨⟨v16,v17⟩,h10,hr⟩:=bs hr
     try dsimp only at hr
     have h10m:=eD (f:=e_ii) h10
     have h10l:=gC h10
     try simp only[List.length_set] at h10l
     have h10a:=gB h10
     have T:=an h10m T
     have T:=an h10l T
     have T:=an h10a T
     refine wA T (g:=?_)
     obtain⟨⟨v18,v19⟩,h11,hr⟩:=bs hr
     try dsimp only at hr
     apply TD.cal (wn T) rfl Rp (kK h11) rfl rfl rfl
     repeat exact sd T
     refine wa_ T (g:=?_)
     apply TD.sr e_ii v5 (v16,v17) (v18,v19) h10a (wn T) rfl rfl rfl rfl rfl ok115 (by rw[cs115];rfl) rfl rfl rfl rfl rfl
     repeat exact sd T
     refine wa_ T (g:=?_)
     cases hr
     refine⟨rfl,?_⟩
     exact wk_ T [some 0] rfl (.rows .nil rfl rfl)
   ·have T:=an h7 T
    refine wa_ T (g:=?_)
    cases hr
    refine⟨rfl,?_⟩
    exact wk_ T [some 0] rfl (.rows .nil rfl rfl)
  ·intro e h;cases h
  ·try dsimp only
   refine wa_ T (g:=?_)
   cases hr
   refine⟨.inr rfl,_,(ry T),?_⟩
   exact wr [some 0] rfl (.rows .nil rfl rfl)
  ·try dsimp only
   exact wr [some 0] rfl (.rows .nil rfl rfl)
 rfl
theorem lB{v1:Int}{v2:(List Int)}{v3:Int}{v4:Int}{v5:Int}{v6:(List Int)}(hr:eC v1 v2 v3=some (v4,v5,v6)):Spec (lim Tryz.prog) 113 [.agg [.v (.int .i64 v1),.list 1 (v2.map e_i)],.v (.int .i64 v3)] ⟨[.func 131 [] [.fptr true [.v (.int .i64 v4)] 0,.fptr true [.v (.int .i64 v5),.list 1 (v6.map e_i)] 0]],[]⟩:=by
 unfold eC at hr
 have T:=@e_i.eq_1
 apply Spec.fn Tryz.func113 rfl
 focus (simp[Tryz.f113]<;>exact rfl)
 focus
  refine wb_ T (g:=?_)
  cases hr
  refine⟨.inr rfl,_,(ry T),?_⟩
  exact wr [] rfl .nil
 rfl
def y38:=an @ag24 <| an @ag3 <| an @cs3 <| an @vK <| an @Bh <| an @Ro <| an @ok3 <| an @so24 <| @aV
theorem mJ{v1:Int}{v2:(List Int)}{v3:Int}{v4:Int}(hr:dU v1 v2 v3=some (v4)):Spec (lim Tryz.prog) 132 [.agg [.v (.int .i64 v1),.list 1 (v2.map e_i)],.v (.int .i64 v3)] ⟨[.v (.int .i64 v4)],[]⟩:=by
 unfold dU at hr
 have T:=an y38 <| @e_i.eq_1
 apply Spec.fn Tryz.func132 rfl
 focus (simp[Tryz.f132]<;>exact rfl)
 focus
  refine wD T (g:=?_)
  obtain⟨v12,h7,hr⟩:=bs hr
  refine TX.loopE (step:=cK v1 v2 v3) (x:=(0,0)) h7 (fun (v5,v6)=>⟨.U::.v (.int .i64 v3)::.fptr true [.v (.int .i64 v1),.list 1 (v2.map e_i)] 0::.U::.U::.v (.int .i64 v5)::.U::.U::.U::.U::.list 1 (v2.map e_i)::.v (.int .i64 (v2.length:Int))::.v (.int .i64 v6)::.U::.U::.U::.U::.U::.U::.U::.U::.U::.U::.U::.U::.U::.U::.U::.U::.U::.U::.U::.U::.U::.U::.U::[],[]⟩) (fun v9=>(.exit 0,⟨.U::.v (.int .i64 v3)::.fptr true [.v (.int .i64 v1),.list 1 (v2.map e_i)] 0::.U::.U::.v (.int .i64 v9)::.U::.U::.U::.U::.U::.U::.U::.U::.U::.U::.U::.U::.U::.U::.U::.U::.U::.U::.U::.U::.U::.U::.U::.U::.U::.U::.U::.U::.U::.U::[],[]⟩)) ?_ ?_ ?_ ?_
  ·rintro⟨v5,v6⟩ v0 hr
   dsimp only[cK] at hr
   try dsimp only
   refine wa_ T (g:=?_)
   rcases ifs hr with⟨h4,hr⟩|⟨h4,hr⟩
   ·have T:=an h4 T
    refine wa_ T (g:=?_)
    obtain⟨v10,h5,hr⟩:=bs hr
    have T:=an (gx e_i h5) T
    refine wA T (g:=?_)
    obtain⟨v11,h6,hr⟩:=bs hr
    apply TO.pop1 (wn T) (xB rfl rfl (by decide) (h6))
    repeat exact sd T
    refine wa_ T (g:=?_)
    apply TO.pop1 (wn T) (vN rfl rfl (by decide))
    repeat exact sd T
    refine wa_ T (g:=?_)
    apply TO.pop1 (wn T) (vN rfl rfl (by decide))
    repeat exact sd T
    refine wa_ T (g:=?_)
    cases hr
    refine⟨rfl,?_⟩
    exact wk_ T [] rfl .nil
   ·have T:=an h4 T
    refine wa_ T (g:=?_)
    cases hr
    refine⟨rfl,?_⟩
    exact wk_ T [] rfl .nil
  ·intro e h;cases h
  ·try dsimp only
   refine wa_ T (g:=?_)
   obtain⟨v13,h8,hr⟩:=bs hr
   apply TO.pop1 (wn T) (xB rfl rfl (by decide) (h8))
   repeat exact sd T
   refine wA T (g:=?_)
   obtain⟨v14,h9,hr⟩:=bs hr
   apply TO.pop1 (wn T) (xB rfl rfl (by decide) (h9))
   repeat exact sd T
   refine wa_ T (g:=?_)
   apply TO.pop1 (wn T) (vN rfl rfl (by decide))
   repeat exact sd T
   refine wa_ T (g:=?_)
   cases hr
   refine⟨.inr rfl,_,(ry T),?_⟩
   exact wr [] rfl .nil
  ·try dsimp only
   exact wr [] rfl .nil
 rfl
def y39:=an @ag3 <| an @ag84 <| an @cs84 <| @ok84
theorem gK{v1:Int}{v2:Int}{v3:(List Int)}:ISpec (lim Tryz.prog) 131 [] [.fptr true [.v (.int .i64 v1)] 0,.fptr true [.v (.int .i64 v2),.list 1 (v3.map e_i)] 0] (fun a0=>[.v (.int .i64 a0)]) (fun {X}=>aH (X:=X) v1 v2 v3):=by
 refine ISpec.fn (tms:=fun l=>[.v (.func (.yield l) #[] #[]),.fptr true [.v (.int .i64 v1)] 0,.fptr true [.v (.int .i64 v2),.list 1 (v3.map e_i)] 0,.U,.U,.U,.U,.U,.U,.U,.U,.U]) Tryz.func131 rfl rfl (fun l=>by simp[Tryz.f131]<;>exact rfl) ?_
 intro X O l H v4 xx hY hr
 dsimp only[aH] at hr
 try dsimp only
 repeat (first|(with_reducible first|refine mv ?_|refine m12 rfl ?_)|fail)
 refine TI.of ?_
 repeat (first|(with_reducible first|refine mv ?_|refine m12 rfl ?_|refine TO.nil ?_)|((with_reducible first|apply TO.ld|apply TO.asg);(repeat (focus (show _=_;first|exact k1 rfl|exact k2 rfl|(simp only[zz,y39,e_i,Nat.reduceAdd,Nat.reduceMul,Nat.reduceLeDiff,Nat.reduceEqDiff,tload,dV,dN,List.getElem?_map]<;>exact rfl)|exact rfl)));(with_reducible apply TO.here))|((with_reducible apply TX.region);(focus (simp only[zl]<;>exact rfl));(focus rfl);(try dsimp only))|fail)
 refine⟨[.v (.func (.yield l) #[] #[]),.fptr true [.v (.int .i64 v1)] 0,.fptr true [.v (.int .i64 v2),.list 1 (v3.map e_i)] 0,.U,.v (.int .i64 v1),.v (.int .i64 v1),.U,.U,.U,.U,.U,.U],?_,?_⟩
 ·exact wr [] rfl .nil
 repeat (first|(with_reducible first|refine mv ?_|refine m12 rfl ?_)|fail)
 obtain⟨v14,h7,hr⟩:=Option.bind_eq_some_iff.1 hr
 try dsimp only at hr
 refine TI.loopW (step:=aU H v2 v3) (y:=(v1,v4)) h7 (fun (v5,v6)=>([.v (.func (.yield l) #[] #[]),.U,.fptr true [.v (.int .i64 v2),.list 1 (v3.map e_i)] 0,.U,.v (.int .i64 v5),.U,.U,.U,.U,.U,.U,.U],v6)) (fun v10=>(.exit 0,([.U,.U,.U,.U,.U,.U,.U,.U,.U,.U,.U,.U],v10))) ?_ rfl ?_ ?_ ?_
 ·try dsimp only
  exact wr [] rfl .nil
 ·rintro⟨v5,v6⟩ v0 hr
  dsimp only[aU] at hr
  try dsimp only
  repeat (first|(with_reducible first|refine mv ?_|refine m12 rfl ?_)|fail)
  refine TI.yield 2 hY (by simp only[zl]<;>exact rfl) (by simp only[List.take_succ_cons,List.take_zero]<;>exact rfl) (by exact rfl) ⟨⟨_,_,_,_,_,rfl⟩⟩ rfl ?_
  try dsimp only
  repeat (first|(with_reducible first|refine mv ?_|refine m12 rfl ?_|refine TO.nil ?_)|((with_reducible first|apply TO.mv);(repeat (focus (show _=_;first|exact k1 rfl|exact k2 rfl|(simp only[zz,y39,e_i,Nat.reduceAdd,Nat.reduceMul,Nat.reduceLeDiff,Nat.reduceEqDiff]<;>exact rfl)|exact rfl)));(with_reducible apply TO.here))|((with_reducible apply TX.region);(focus (simp only[zl]<;>exact rfl));(focus rfl);(try dsimp only))|fail)
  obtain⟨⟨v11,v12⟩,h4,hr⟩:=Option.bind_eq_some_iff.1 hr
  try dsimp only at hr
  refine⟨[.v (.func (.yield l) #[] #[]),.U,.fptr true [.v (.int .i64 v2),.list 1 (v3.map e_i)] 0,.U,.v (.int .i64 v5),.U,.v (.func (.yield l) #[] #[]),.v (.int .i64 v5),.U,.U,.U,.U],?_,.inl ⟨v5,v11,v12,by first|rfl|(simp only[twant,z1,z7]<;>rfl),rfl,rfl,h4,?_⟩⟩
  ·exact wr [] rfl .nil
  show TO _ _ _ _ ⟨.v (.func (.yield l) #[] #[])::.U::.fptr true [.v (.int .i64 v2),.list 1 (v3.map e_i)] 0::.U::.v (.int .i64 v5)::.U::.v (.func (.yield l) #[] #[])::.v (.int .i64 v5)::.v (.bool v11)::.U::.U::.U::[],[]⟩ _
  repeat (first|(with_reducible first|refine mv ?_|refine m12 rfl ?_|refine TO.nil ?_)|((with_reducible apply TX.region);(focus (simp only[zl]<;>exact rfl));(focus rfl);(try dsimp only))|fail)
  refine⟨[.v (.func (.yield l) #[] #[]),.U,.fptr true [.v (.int .i64 v2),.list 1 (v3.map e_i)] 0,.U,.v (.int .i64 v5),.U,.v (.func (.yield l) #[] #[]),.v (.int .i64 v5),.v (.bool v11),.U,.U,.U],?_,?_⟩
  ·exact wr [] rfl .nil
  repeat (first|(with_reducible first|refine mv ?_|refine m12 rfl ?_)|((with_reducible apply TX.cond_true);(focus rfl);(focus (first|rfl|(simp only[z1,zn];done))))|((with_reducible apply TX.cond_false);(focus rfl);(focus (first|rfl|(simp only[z1,zn];done))))|((with_reducible apply TI.cond_true);(focus rfl);(focus (first|rfl|(simp only[z1,zn];done))))|((with_reducible apply TI.cond_false);(focus rfl);(focus (first|rfl|(simp only[z1,zn];done))))|fail)
  rcases Bool.eq_false_or_eq_true (v11) with h5|h5
  ·rw[a9 h5] at hr
   repeat (first|(with_reducible first|refine mv ?_|refine m12 rfl ?_)|((with_reducible apply TX.cond_true);(focus rfl);(focus (first|rfl|(simp only[z1,zn,h5];done))))|((with_reducible apply TX.cond_false);(focus rfl);(focus (first|rfl|(simp only[z1,zn,h5];done))))|((with_reducible apply TI.cond_true);(focus rfl);(focus (first|rfl|(simp only[z1,zn,h5];done))))|((with_reducible apply TI.cond_false);(focus rfl);(focus (first|rfl|(simp only[z1,zn,h5];done))))|fail)
   refine TI.of ?_
   repeat (first|(with_reducible first|refine mv ?_|refine m12 rfl ?_|refine TO.nil ?_)|((with_reducible first|apply TO.ld|apply TO.mv);(repeat (focus (show _=_;first|exact k1 rfl|exact k2 rfl|(simp only[zz,y39,e_i,Nat.reduceAdd,Nat.reduceMul,Nat.reduceLeDiff,Nat.reduceEqDiff,tload,dV,dN,List.getElem?_map,h5]<;>exact rfl)|exact rfl)));(with_reducible apply TO.here))|((with_reducible apply TX.region);(focus (simp only[zl]<;>exact rfl));(focus rfl);(try dsimp only))|fail)
   obtain⟨v13,h6,hr⟩:=Option.bind_eq_some_iff.1 hr
   try dsimp only at hr
   apply TO.cal (by first|rfl|(simp only[twant,z1,z7,h5]<;>rfl)) rfl Uw (mJ h6) rfl rfl rfl
   (repeat (focus (show _=_;first|exact k1 rfl|exact k2 rfl|(simp only[zz,y39,e_i,Nat.reduceAdd,Nat.reduceMul,Nat.reduceLeDiff,Nat.reduceEqDiff,shift,kill,oR,frz,Lm,view,tml,tmlc,List.length_set,h5]<;>exact rfl)|exact rfl)))
   with_reducible apply TO.here
   repeat (first|(with_reducible first|refine mv ?_|refine m12 rfl ?_|refine TO.nil ?_)|((with_reducible first|apply TO.asg);(repeat (focus (show _=_;first|exact k1 rfl|exact k2 rfl|(simp only[zz,y39,e_i,Nat.reduceAdd,Nat.reduceMul,Nat.reduceLeDiff,Nat.reduceEqDiff,h5]<;>exact rfl)|exact rfl)));(with_reducible apply TO.here))|((with_reducible apply TX.region);(focus (simp only[zl]<;>exact rfl));(focus rfl);(try dsimp only))|fail)
   refine⟨[.v (.func (.yield l) #[] #[]),.U,.fptr true [.v (.int .i64 v2),.list 1 (v3.map e_i)] 0,.U,.v (.int .i64 v13),.U,.v (.func (.yield l) #[] #[]),.v (.int .i64 v5),.v (.bool v11),.agg [.v (.int .i64 v2),.list 1 (v3.map e_i)],.v (.int .i64 v5),.v (.int .i64 v13)],?_,?_⟩
   ·exact Wk.ren [] rfl .nil (by (repeat (first|exact RNs.nil|refine RNs.cons .U ?_|refine RNs.cons (.keep rfl rfl) ?_|refine RNs.cons (.lsl rfl rfl) ?_|refine RNs.cons (.lsl rfl (by simp only[List.length_set])) ?_|refine RNs.cons (.lptr rfl) ?_|refine RNs.cons (.nil rfl) ?_|refine RNs.cons .nl ?_|refine RNs.cons (.keep (by simp only[h5]) rfl) ?_|refine RNs.cons (.tuple' ?_) ?_|refine RNs.cons (.agg' ?_) ?_)))
   repeat (first|(with_reducible first|refine mv ?_|refine m12 rfl ?_)|fail)
   cases hr
   refine⟨rfl,?_,rfl⟩
   exact Wk.ren [] rfl .nil (by (repeat (first|exact RNs.nil|refine RNs.cons .U ?_|refine RNs.cons (.keep rfl rfl) ?_|refine RNs.cons (.lsl rfl rfl) ?_|refine RNs.cons (.lsl rfl (by simp only[List.length_set])) ?_|refine RNs.cons (.lptr rfl) ?_|refine RNs.cons (.nil rfl) ?_|refine RNs.cons .nl ?_|refine RNs.cons (.keep (by simp only[h5]) rfl) ?_|refine RNs.cons (.tuple' ?_) ?_|refine RNs.cons (.agg' ?_) ?_)))
  ·rw[b6 (by rw[h5];exact Bool.false_ne_true)] at hr
   repeat (first|(with_reducible first|refine mv ?_|refine m12 rfl ?_)|((with_reducible apply TX.cond_true);(focus rfl);(focus (first|rfl|(simp only[z1,zn,h5];done))))|((with_reducible apply TX.cond_false);(focus rfl);(focus (first|rfl|(simp only[z1,zn,h5];done))))|((with_reducible apply TI.cond_true);(focus rfl);(focus (first|rfl|(simp only[z1,zn,h5];done))))|((with_reducible apply TI.cond_false);(focus rfl);(focus (first|rfl|(simp only[z1,zn,h5];done))))|fail)
   cases hr
   refine⟨rfl,?_,rfl⟩
   exact Wk.ren [] rfl .nil (by (repeat (first|exact RNs.nil|refine RNs.cons .U ?_|refine RNs.cons (.keep rfl rfl) ?_|refine RNs.cons (.lsl rfl rfl) ?_|refine RNs.cons (.lsl rfl (by simp only[List.length_set])) ?_|refine RNs.cons (.lptr rfl) ?_|refine RNs.cons (.nil rfl) ?_|refine RNs.cons .nl ?_|refine RNs.cons (.keep (by simp only[h5]) rfl) ?_|refine RNs.cons (.tuple' ?_) ?_|refine RNs.cons (.agg' ?_) ?_)))
 ·intro e h;cases h
 ·try dsimp only
  repeat (first|(with_reducible first|refine mv ?_|refine m12 rfl ?_)|fail)
  cases hr
  exact⟨.inl rfl,rfl⟩
def y40:=an @ag24 <| an @ag3 <| an @ag84 <| an @by3 <| an @cs24 <| an @cs3 <| an @cs84 <| an @ni24 <| an @ok24 <| an @ok84 <| an @so24 <| an @zc24 <| @zc3
theorem sE{v1:Int}{v2:(List Int)}{v3:Int}{v4:Int}{v5:(List Int)}(hr:fV v1 v2 v3 v4=some (v5)):Spec (lim Tryz.prog) 77 [.agg [.v (.int .i64 v1),.list 1 (v2.map e_i)],.v (.int .i64 v3),.v (.int .i64 v4)] ⟨[.lsl 0 0 v5.length],[.rows 1 (v5.map e_i)]⟩:=by
 unfold fV at hr
 have T:=an y40 <| @e_i.eq_1
 apply Spec.fnM Tryz.func77 rfl
 focus (simp[Tryz.f77]<;>exact rfl)
 focus
  refine wB T (g:=?_)
  obtain⟨⟨v6,v7,v8⟩,h1,hr⟩:=bs hr
  try dsimp only at hr
  apply TO.cal (wn T) rfl Tf (lB h1) rfl rfl rfl
  repeat exact sd T
  refine wa_ T (g:=?_)
  obtain⟨v15,h6,hr⟩:=bs hr
  refine TM.weak (s':=⟨.U::.U::.U::.U::.U::.fptr true [.v (.int .i64 v4)] 0::.U::.lptr 0 0 0::.U::.U::.U::.func 131 [] [.fptr true [.v (.int .i64 v6)] 0,.fptr true [.v (.int .i64 v7),.list 1 (v8.map e_i)] 0]::.U::.U::.U::.U::.U::.U::.U::.U::.U::.U::.U::[],[.var [.lsl 1 0 ([]:List Int).length],.rows 1 (([]:List Int).map e_i)]⟩) ?_ ?_
  ·exact wr [some 0,none] rfl (rv (.virt .nil) rfl)
  refine TM.range (it:=fun {X}=>aH v6 v7 v8) (enc:=fun a0=>[.v (.int .i64 a0)]) h6 (fun v9=>[.var [.lsl 1 0 v9.length],.rows 1 (v9.map e_i)]) (fun v12=>[.var [.lsl 1 0 v12.length],.rows 1 (v12.map e_i)]) (fun _=>.exit 0) rfl rfl Ue gK rfl rfl rfl (fun _=>rfl) (fun _=>.inr ⟨_,rfl⟩) ?_ ?_
  ·rintro v13 v9 r hr
   dsimp only[dQ] at hr
   show TX _ _ _ ⟨.U::.U::.U::.U::.U::.fptr true [.v (.int .i64 v4)] 0::.U::.lptr 0 0 0::.U::.U::.U::.func 131 [] [.fptr true [.v (.int .i64 v6)] 0,.fptr true [.v (.int .i64 v7),.list 1 (v8.map e_i)] 0]::.v (.int .i64 v13)::.U::.U::.U::.U::.U::.U::.U::.U::.U::.U::[],[.var [.lsl 1 0 v9.length],.rows 1 (v9.map e_i)]⟩ _
   refine wa_ T (g:=?_)
   refine⟨rfl,?_⟩
   repeat (first|(with_reducible first|refine mv ?_|refine m12 rfl ?_|refine TO.nil ?_)|((with_reducible first|apply TO.ld|apply TO.len|apply TO.bin);(repeat (focus (show _=_;first|exact k1 rfl|exact k2 rfl|(simp only[zz,y40,e_i,Nat.reduceAdd,Nat.reduceMul,Nat.reduceLeDiff,Nat.reduceEqDiff,tload,dV,dN,List.getElem?_map,tlen]<;>exact rfl)|exact rfl)));(with_reducible apply TO.here))|((with_reducible apply TX.region);(focus (simp only[zl]<;>exact rfl));(focus rfl);(try dsimp only))|((with_reducible apply TX.cond_true);(focus rfl);(focus (first|rfl|(simp only[z1,zn];done))))|((with_reducible apply TX.cond_false);(focus rfl);(focus (first|rfl|(simp only[z1,zn];done))))|((with_reducible apply TM.cond_true);(focus rfl);(focus (first|rfl|(simp only[z1,zn];done))))|((with_reducible apply TM.cond_false);(focus rfl);(focus (first|rfl|(simp only[z1,zn];done))))|fail)
   rcases ifs hr with⟨h4,hr⟩|⟨h4,hr⟩
   ·repeat (first|(with_reducible first|refine mv ?_|refine m12 rfl ?_)|((with_reducible apply TX.cond_true);(focus rfl);(focus (first|rfl|(simp only[z1,zn,h4];done))))|((with_reducible apply TX.cond_false);(focus rfl);(focus (first|rfl|(simp only[z1,zn,h4];done))))|((with_reducible apply TM.cond_true);(focus rfl);(focus (first|rfl|(simp only[z1,zn,h4];done))))|((with_reducible apply TM.cond_false);(focus rfl);(focus (first|rfl|(simp only[z1,zn,h4];done))))|fail)
    cases hr
    refine⟨rfl,?_⟩
    have T:=an h4 T
    exact wk_ T [some 0,some 1] rfl (rv (.rows .nil rfl rfl) rfl)
   ·repeat (first|(with_reducible first|refine mv ?_|refine m12 rfl ?_|refine TO.nil ?_)|((with_reducible first|apply TO.ld|apply TO.mv);(repeat (focus (show _=_;first|exact k1 rfl|exact k2 rfl|(simp only[zz,y40,e_i,Nat.reduceAdd,Nat.reduceMul,Nat.reduceLeDiff,Nat.reduceEqDiff,tload,dV,dN,List.getElem?_map,h4]<;>exact rfl)|exact rfl)));(with_reducible apply TO.here))|((with_reducible apply TX.region);(focus (simp only[zl]<;>exact rfl));(focus rfl);(try dsimp only))|((with_reducible apply TX.cond_true);(focus rfl);(focus (first|rfl|(simp only[z1,zn,h4];done))))|((with_reducible apply TX.cond_false);(focus rfl);(focus (first|rfl|(simp only[z1,zn,h4];done))))|((with_reducible apply TM.cond_true);(focus rfl);(focus (first|rfl|(simp only[z1,zn,h4];done))))|((with_reducible apply TM.cond_false);(focus rfl);(focus (first|rfl|(simp only[z1,zn,h4];done))))|fail)
    have T:=an h4 T
    apply TO.pop1 (wn T) (vN rfl rfl (by decide))
    repeat exact sd T
    refine wa_ T (g:=?_)
    apply TO.bm e_i ([(yP .and .i64 v13 1)]:List Int) (wn T) rfl (by simp only[zz,y40,e_i,Nat.reduceAdd,Nat.reduceMul,Nat.reduceLeDiff,Nat.reduceEqDiff,tslice,tparts,h4];exact rfl) rfl
    repeat exact sd T
    refine wa_ T (g:=?_)
    obtain⟨v14,h5,hr⟩:=bs hr
    apply TO.ap (f:=e_i) (xs:=v9) (ys:=([(yP .and .i64 v13 1)]:List Int)) (wn T) rfl rfl (by first|rfl|simp only[List.length_set]) rfl rfl so24 ni24 zc3 rfl (by rw[by3];exact h5) (fun _=>⟨rfl,rfl,rfl⟩)
    repeat exact sd T
    refine wa_ T (g:=?_)
    cases hr
    refine⟨rfl,?_⟩
    exact wk_ T [some 0,some 1] rfl (rv (.rows .nil rfl rfl) rfl)
  ·rcases v15 with v16|v17
   ·try dsimp only at hr
    try dsimp only
    refine wA T (g:=?_)
    cases hr
    refine⟨.inr rfl,_,(ry T),?_⟩
    exact wr [some 1] rfl (.rows .nil rfl rfl)
   ·try dsimp only at hr
    try dsimp only
    refine wA T (g:=?_)
    cases hr
    refine⟨.inr rfl,_,(ry T),?_⟩
    exact wr [some 1] rfl (.rows .nil rfl rfl)
 rfl
def y41:=an @ag3 <| an @ag84 <| an @cs3 <| an @cs84 <| an @ok3 <| an @ok84 <| an @so24 <| @aV
theorem hU{v1:Int}{v2:(List Int)}{v3:Int}{v4:(List Int)}(hr:cA v1 v2 v3=some (v4)):Spec (lim Tryz.prog) 64 [.agg [.v (.int .i64 v1),.list 1 (v2.map e_i)],.v (.int .i64 v3)] ⟨[.lsl 0 0 v4.length],[.rows 1 (v4.map e_i)]⟩:=by
 unfold cA at hr
 have T:=an y41 <| @e_i.eq_1
 apply Spec.fn Tryz.func64 rfl
 focus (simp[Tryz.f64]<;>exact rfl)
 focus
  refine wB T (g:=?_)
  obtain⟨v5,h1,hr⟩:=bs hr
  apply TD.cal (wn T) rfl vH (aL h1) rfl rfl rfl
  repeat exact sd T
  refine wa_ T (g:=?_)
  obtain⟨v6,h2,hr⟩:=bs hr
  apply TD.cal (wn T) rfl aCj (sE h2) rfl rfl rfl
  repeat exact sd T
  refine wc_ T (g:=?_)
  obtain⟨v12,h7,hr⟩:=bs hr
  refine TX.loopE (step:=dH v6) (x:=(v6,0)) h7 (fun (v7,v8)=>⟨.U::.U::.U::.U::.U::.lsl 0 0 v7.length::.U::.U::.U::.U::.U::.U::.U::.lsl 0 0 v7.length::.v (.int .i64 (v6.length:Int))::.v (.int .i64 v8)::.U::.U::.U::.U::.U::.U::.U::.U::.U::.U::.U::.U::[],[.rows 1 (v7.map e_i)]⟩) (fun v10=>(.exit 0,⟨.U::.U::.U::.U::.U::.lsl 0 0 v10.length::.U::.U::.U::.U::.U::.U::.U::.U::.U::.U::.U::.U::.U::.U::.U::.U::.U::.U::.U::.U::.U::.U::[],[.rows 1 (v10.map e_i)]⟩)) ?_ ?_ ?_ ?_
  ·rintro⟨v7,v8⟩ v0 hr
   dsimp only[dH] at hr
   try dsimp only
   refine wa_ T (g:=?_)
   rcases ifs hr with⟨h5,hr⟩|⟨h5,hr⟩
   ·have T:=an h5 T
    refine wa_ T (g:=?_)
    obtain⟨v11,h6,hr⟩:=bs hr
    have h6m:=eD (f:=e_i) h6
    have h6l:=gC h6
    try simp only[List.length_set] at h6l
    have h6a:=gB h6
    have T:=an h6m T
    have T:=an h6l T
    have T:=an h6a T
    refine wA T (g:=?_)
    apply TO.sr e_i v7 v11 (IntKind.i64.wrap (1-(IntKind.i64.wrap (2*v11)))) h6a (wn T) rfl rfl rfl rfl rfl ok3 (by rw[cs3];rfl) rfl rfl rfl rfl
    repeat exact sd T
    refine wa_ T (g:=?_)
    cases hr
    refine⟨rfl,?_⟩
    exact wk_ T [some 0] rfl (.rows .nil rfl rfl)
   ·have T:=an h5 T
    refine wa_ T (g:=?_)
    cases hr
    refine⟨rfl,?_⟩
    exact wk_ T [some 0] rfl (.rows .nil rfl rfl)
  ·intro e h;cases h
  ·try dsimp only
   refine wa_ T (g:=?_)
   cases hr
   refine⟨.inr rfl,_,(ry T),?_⟩
   exact wr [some 0] rfl (.rows .nil rfl rfl)
  ·try dsimp only
   exact wr [some 0] rfl (.rows .nil rfl rfl)
 rfl
def y42:=an @ag84 <| an @cs24 <| an @cs84 <| an @ok24 <| an @ok84 <| @zc24
theorem lC{v1:Int}{v2:(List Int)}{v3:Int}{v4:(List Int)}(hr:bF v1 v2 v3=some (v4)):Spec (lim Tryz.prog) 44 [.agg [.v (.int .i64 v1),.list 1 (v2.map e_i)],.v (.int .i64 v3)] ⟨[.func 88 [] [.fptr true [.list 1 (v4.map e_i)] 0]],[]⟩:=by
 unfold bF at hr
 have T:=an y42 <| @e_i.eq_1
 apply Spec.fn Tryz.func44 rfl
 focus (simp[Tryz.f44]<;>exact rfl)
 focus
  refine wB T (g:=?_)
  obtain⟨v5,h1,hr⟩:=bs hr
  apply TO.cal (wn T) rfl Ss (hU h1) rfl rfl rfl
  repeat exact sd T
  refine wa_ T (g:=?_)
  apply TO.frz 0 rfl rfl
  repeat exact sd T
  refine wa_ T (g:=?_)
  apply TO.frz 1 rfl rfl
  repeat exact sd T
  refine wa_ T (g:=?_)
  cases hr
  refine⟨.inr rfl,_,(ry T),?_⟩
  exact wr [] rfl .nil
 rfl
theorem vM{v1:Int}{v2:(List (Int×Int))}{v3:Int}{v4:(List (Int×Int))}(hr:mX v1 v2=some (v3,v4)):Spec (lim Tryz.prog) 68 [.v (.int .i64 v1),.func 89 [] [.fptr true [.list 2 (v2.map e_ii)] 0]] ⟨[.func 103 [] [.fptr true [.v (.int .i64 v3)] 0,.fptr true [.func 89 [] [.fptr true [.list 2 (v4.map e_ii)] 0]] 0]],[]⟩:=by
 unfold mX at hr
 have T:=@e_ii.eq_1
 apply Spec.fn Tryz.func68 rfl
 focus (simp[Tryz.f68]<;>exact rfl)
 focus
  refine wb_ T (g:=?_)
  cases hr
  refine⟨.inr rfl,_,(ry T),?_⟩
  exact wr [] rfl .nil
 rfl
theorem oP{v1:Int}{v2:Int}{v3:Bool}(hr:gD v1 v2=some (v3)):Spec (lim Tryz.prog) 105 [.v (.int .i64 v1),.v (.int .i64 v2)] ⟨[.v (.bool v3)],[]⟩:=by
 unfold gD at hr
 have T:=trivial
 apply Spec.fn Tryz.func105 rfl
 focus (simp[Tryz.f105]<;>exact rfl)
 focus
  refine wa_ T (g:=?_)
  apply TO.pop1 (wn T) (aBK rfl)
  repeat exact sd T
  refine wa_ T (g:=?_)
  rcases ifs hr with⟨h1,hr⟩|⟨h1,hr⟩
  ·have T:=an h1 T
   refine wa_ T (g:=?_)
   cases hr
   refine⟨.inr rfl,_,(ry T),?_⟩
   exact wk_ T [] rfl .nil
  ·have T:=an h1 T
   refine wa_ T (g:=?_)
   cases hr
   refine⟨.inr rfl,_,(ry T),?_⟩
   exact wk_ T [] rfl .nil
 rfl
def y43:=an @ag3 <| an @xG <| @xK
theorem tS{v1:Int}{v2:Int}{v3:Int}{v4:Bool}{v5:Int}(hr:iH v1 v2 v3=some (v4,v5)):Spec (lim Tryz.prog) 74 [.agg [.v (.int .i64 v1),.v (.int .i64 v2)],.v (.int .i64 v3)] ⟨[.func 91 [] [.fptr true [.v (.bool v4)] 0,.fptr true [.v (.int .i64 v5)] 0]],[]⟩:=by
 unfold iH at hr
 have T:=y43
 apply Spec.fn Tryz.func74 rfl
 focus (simp[Tryz.f74]<;>exact rfl)
 focus
  refine wB T (g:=?_)
  obtain⟨v6,h1,hr⟩:=bs hr
  apply TO.cal (wn T) rfl Tj (oP h1) rfl rfl rfl
  repeat exact sd T
  refine wa_ T (g:=?_)
  apply TO.pop1 (wn T) (bS rfl)
  repeat exact sd T
  refine wa_ T (g:=?_)
  rcases ifs hr with⟨h2,hr⟩|⟨h2,hr⟩
  ·have T:=an h2 T
   refine wA T (g:=?_)
   obtain⟨v7,h3,hr⟩:=bs hr
   apply TO.cal (wn T) rfl Tj (oP h3) rfl rfl rfl
   repeat exact sd T
   refine wa_ T (g:=?_)
   apply TO.pop1 (wn T) (bS rfl)
   repeat exact sd T
   refine wa_ T (g:=?_)
   obtain⟨⟨v8,v9⟩,h4,hr⟩:=bs hr
   try dsimp only at hr
   apply TO.cal (wn T) rfl iF (aE h4) rfl rfl rfl
   repeat exact sd T
   refine wa_ T (g:=?_)
   cases hr
   refine⟨.inr rfl,_,(ry T),?_⟩
   exact wk_ T [] rfl .nil
  ·have T:=an h2 T
   refine wa_ T (g:=?_)
   obtain⟨⟨v10,v11⟩,h5,hr⟩:=bs hr
   try dsimp only at hr
   apply TO.cal (wn T) rfl iF (aE h5) rfl rfl rfl
   repeat exact sd T
   refine wa_ T (g:=?_)
   cases hr
   refine⟨.inr rfl,_,(ry T),?_⟩
   exact wk_ T [] rfl .nil
 rfl
def y44:=an @ag115 <| an @ag90 <| an @cs115 <| an @ok115 <| @so90
theorem qU{v1:Int}{v2:(List (Int×Int))}{v3:Int}(hr:gR v1 v2=some (v3)):Spec (lim Tryz.prog) 89 [.v (.int .i64 v1),.fptr true [.list 2 (v2.map e_ii)] 0] ⟨[.v (.int .i64 v3)],[]⟩:=by
 unfold gR at hr
 have T:=an y44 <| @e_ii.eq_1
 apply Spec.fn Tryz.func89 rfl
 focus (simp[Tryz.f89]<;>exact rfl)
 focus
  refine wA T (g:=?_)
  obtain⟨⟨v4,v5⟩,h1,hr⟩:=bs hr
  try dsimp only at hr
  have T:=an (gx e_ii h1) T
  refine wA T (g:=?_)
  obtain⟨⟨v6,v7⟩,h2,hr⟩:=bs hr
  try dsimp only at hr
  apply TO.cal (wn T) rfl aC5 (tS h2) rfl rfl rfl
  repeat exact sd T
  refine wa_ T (g:=?_)
  obtain⟨v8,h3,hr⟩:=bs hr
  apply TO.cal (wn T) rfl jU (aB h3) rfl rfl rfl
  repeat exact sd T
  refine wa_ T (g:=?_)
  cases hr
  refine⟨.inr rfl,_,(ry T),?_⟩
  exact wr [] rfl .nil
 rfl
def y45:=an @ag118 <| an @ag3 <| @aV
theorem sZ{v1:Int}{v2:(List (Int×Int))}{v3:Int}(hr:kA v1 v2=some (v3)):Spec (lim Tryz.prog) 103 [.fptr true [.v (.int .i64 v1)] 0,.fptr true [.func 89 [] [.fptr true [.list 2 (v2.map e_ii)] 0]] 0] ⟨[.v (.int .i64 v3)],[]⟩:=by
 unfold kA at hr
 have T:=an y45 <| @e_ii.eq_1
 apply Spec.fn Tryz.func103 rfl
 focus (simp[Tryz.f103]<;>exact rfl)
 focus
  refine wA T (g:=?_)
  obtain⟨v8,h7,hr⟩:=bs hr
  refine TX.loopE (step:=cB v1 v2) (x:=0) h7 (fun v4=>⟨.U::.fptr true [.func 89 [] [.fptr true [.list 2 (v2.map e_ii)] 0]] 0::.U::.U::.U::.v (.int .i64 v1)::.v (.int .i64 v4)::.U::.U::.U::.U::.U::.U::.U::.U::.U::[],[]⟩) (fun e=>match e with|(.inl v6)=>(.ret,⟨.U::.U::.v (.int .i64 v6)::.U::.U::.U::.U::.U::.U::.U::.U::.U::.U::.U::.U::.U::[],[]⟩)|(.inr _)=>(.exit 0,⟨.U::.U::.U::.U::.U::.U::.U::.U::.U::.U::.U::.U::.U::.U::.U::.U::[],[]⟩)) ?_ ?_ ?_ ?_
  ·rintro v4 v0 hr
   dsimp only[cB] at hr
   try dsimp only
   refine wa_ T (g:=?_)
   rcases ifs hr with⟨h4,hr⟩|⟨h4,hr⟩
   ·have T:=an h4 T
    refine wA T (g:=?_)
    obtain⟨v7,h5,hr⟩:=bs hr
    apply TO.cal (wn T) rfl aCl (qU h5) rfl rfl rfl
    repeat exact sd T
    refine wa_ T (g:=?_)
    rcases ifs hr with⟨h6,hr⟩|⟨h6,hr⟩
    ·have T:=an h6 T
     refine wa_ T (g:=?_)
     cases hr
     refine⟨rfl,?_⟩
     exact wk_ T [] rfl .nil
    ·have T:=an h6 T
     refine wa_ T (g:=?_)
     cases hr
     refine⟨rfl,?_⟩
     exact wk_ T [] rfl .nil
   ·have T:=an h4 T
    refine wa_ T (g:=?_)
    cases hr
    refine⟨rfl,?_⟩
    exact wk_ T [] rfl .nil
  ·intro e h;rcases e with _|e<;>cases h
  ·try dsimp only
   rcases v8 with v9|_
   ·try dsimp only at hr
    try dsimp only
    refine wa_ T (g:=?_)
    cases hr
    refine⟨.inr rfl,_,(ry T),?_⟩
    exact wr [] rfl .nil
   ·try dsimp only at hr
    try dsimp only
    refine wa_ T (g:=?_)
    cases hr
    refine⟨.inr rfl,_,(ry T),?_⟩
    exact wr [] rfl .nil
  ·try dsimp only
   exact wr [] rfl .nil
 rfl
def y46:=an @ag115 <| an @ag3 <| an @ag90 <| an @by59 <| an @cs115 <| an @cs59 <| an @xG <| an @xK <| an @ni32 <| an @ok115 <| an @so32 <| an @so90 <| an @un3 <| an @un36 <| an @zc115 <| an @zc59 <| @aV
theorem gM{v1:(List (Int×Int))}{v2:(List (Nat×Nat))}{v3:Int}(hr:bE v1=some (v2,v3)):Spec (lim Tryz.prog) 45 [.list 2 (v1.map e_ii)] ⟨[.tuple [.lsl 0 0 v2.length,.v (.int .i64 v3)]],[.rows 1 (v2.map e_c)]⟩:=by
 unfold bE at hr
 have T:=an y46 <| an @e_c.eq_1 <| @e_ii.eq_1
 apply Spec.fn Tryz.func45 rfl
 focus (simp[Tryz.f45]<;>exact rfl)
 focus
  refine wD T (g:=?_)
  obtain⟨⟨v4,v5⟩,h1,hr⟩:=bs hr
  try dsimp only at hr
  apply TO.cal (wn T) rfl Rq (vM h1) rfl rfl rfl
  repeat exact sd T
  refine wa_ T (g:=?_)
  obtain⟨v6,h2,hr⟩:=bs hr
  apply TO.cal (wn T) rfl Mj (sZ h2) rfl rfl rfl
  repeat exact sd T
  refine wa_ T (g:=?_)
  rcases ifs hr with⟨h3,hr⟩|⟨h3,hr⟩
  ·have T:=an h3 T
   refine wa_ T (g:=?_)
   cases hr
   refine⟨.inr rfl,_,(ry T),?_⟩
   exact wk_ T [none] rfl (.virt .nil)
  ·have T:=an h3 T
   refine wC T (g:=?_)
   apply TX.vt (α:=(Nat×Nat)) e_c 5 1 rfl
   repeat exact sd T
   with_reducible apply TX.here
   refine wa_ T (g:=?_)
   obtain⟨v16,h10,hr⟩:=bs hr
   refine TX.loopE (step:=eR v1) (x:=(([]:List (Nat×Nat)),0)) h10 (fun (v7,v8)=>⟨.U::.U::.U::.U::.U::.lsl 0 0 v7.length::.U::.U::.U::.U::.U::.U::.U::.U::.U::.U::.list 2 (v1.map e_ii)::.v (.int .i64 (v1.length:Int))::.v (.int .i64 v8)::.U::.U::.U::.U::.U::.U::.U::.U::.U::.U::.U::.U::.U::.U::.U::[],[.rows 1 (v7.map e_c)]⟩) (fun v12=>(.exit 0,⟨.U::.U::.U::.U::.U::.lsl 0 0 v12.length::.U::.U::.U::.U::.U::.U::.U::.U::.U::.U::.U::.U::.U::.U::.U::.U::.U::.U::.U::.U::.U::.U::.U::.U::.U::.U::.U::.U::[],[.rows 1 (v12.map e_c)]⟩)) ?_ ?_ ?_ ?_
   ·rintro⟨v7,v8⟩ v0 hr
    dsimp only[eR] at hr
    try dsimp only
    refine wa_ T (g:=?_)
    rcases ifs hr with⟨h7,hr⟩|⟨h7,hr⟩
    ·have T:=an h7 T
     refine wa_ T (g:=?_)
     obtain⟨⟨v13,v14⟩,h8,hr⟩:=bs hr
     try dsimp only at hr
     have h8m:=eD (f:=e_ii) h8
     have h8l:=gC h8
     try simp only[List.length_set] at h8l
     have h8a:=gB h8
     have T:=an h8m T
     have T:=an h8l T
     have T:=an h8a T
     refine wA T (g:=?_)
     apply TO.pop1 (wn T) (sQ un3 un36 rfl)
     repeat exact sd T
     refine wA T (g:=?_)
     apply TO.pop1 (wn T) (sQ un3 un36 rfl)
     repeat exact sd T
     refine wa_ T (g:=?_)
     apply TO.pop1 (wn T) (Cr rfl rfl)
     repeat exact sd T
     refine wa_ T (g:=?_)
     apply TO.bm e_c ([((FloatKind.f32.nearest v13),(FloatKind.f32.nearest v14))]:List (Nat×Nat)) (wn T) rfl (by simp only[zz,y46,e_c,e_ii,Nat.reduceAdd,Nat.reduceMul,Nat.reduceLeDiff,Nat.reduceEqDiff,tslice,tparts,h3,h7,h8m,h8l,h8a];exact rfl) rfl
     repeat exact sd T
     refine wa_ T (g:=?_)
     obtain⟨v15,h9,hr⟩:=bs hr
     apply TO.ap (f:=e_c) (xs:=v7) (ys:=([((FloatKind.f32.nearest v13),(FloatKind.f32.nearest v14))]:List (Nat×Nat))) (wn T) rfl rfl (by first|rfl|simp only[List.length_set]) rfl rfl so32 ni32 zc59 rfl (by rw[by59];exact h9) (fun _=>⟨rfl,rfl,rfl⟩)
     repeat exact sd T
     refine wa_ T (g:=?_)
     cases hr
     refine⟨rfl,?_⟩
     exact wk_ T [some 0] rfl (.rows .nil rfl rfl)
    ·have T:=an h7 T
     refine wa_ T (g:=?_)
     cases hr
     refine⟨rfl,?_⟩
     exact wk_ T [some 0] rfl (.rows .nil rfl rfl)
   ·intro e h;cases h
   ·try dsimp only
    refine wa_ T (g:=?_)
    cases hr
    refine⟨.inr rfl,_,(ry T),?_⟩
    exact wk_ T [some 0] rfl (.rows .nil rfl rfl)
   ·try dsimp only
    exact wk_ T [some 0] rfl (.rows .nil rfl rfl)
 rfl
theorem oE{v1:Int}{v2:Int}{v3:Int}(hr:eK v1 v2=some (v3)):Spec (lim Tryz.prog) 56 [.v (.int .i64 v1),.v (.int .i64 v2)] ⟨[.v (.int .i64 v3)],[]⟩:=by
 unfold eK at hr
 have T:=trivial
 apply Spec.fn Tryz.func56 rfl
 focus (simp[Tryz.f56]<;>exact rfl)
 focus
  refine wa_ T (g:=?_)
  by_cases h1:v2=0
  ·rw[a9 h1] at hr
   cases hr
  ·rw[b6 h1] at hr
   have T:=an h1 T
   refine wa_ T (g:=?_)
   cases hr
   refine⟨.inr rfl,_,(ry T),?_⟩
   exact wr [] rfl .nil
 rfl
def y47:=an @ag24 <| an @ag3 <| an @cs3 <| an @ok3 <| @so24
theorem gT{v1:Int}{v2:(List Int)}{v3:Int}(hr:aZ v1 v2=some (v3)):Spec (lim Tryz.prog) 88 [.v (.int .i64 v1),.fptr true [.list 1 (v2.map e_i)] 0] ⟨[.v (.int .i64 v3)],[]⟩:=by
 unfold aZ at hr
 have T:=an y47 <| @e_i.eq_1
 apply Spec.fn Tryz.func88 rfl
 focus (simp[Tryz.f88]<;>exact rfl)
 focus
  refine wC T (g:=?_)
  obtain⟨v4,h1,hr⟩:=bs hr
  apply TD.cal (wn T) rfl Ry (oE h1) rfl rfl rfl
  repeat exact sd T
  refine wa_ T (g:=?_)
  obtain⟨v5,h2,hr⟩:=bs hr
  have T:=an (gx e_i h2) T
  refine wA T (g:=?_)
  cases hr
  refine⟨.inr rfl,_,(ry T),?_⟩
  exact wr [] rfl .nil
 rfl
def y48:=@ag94
theorem rR{v1:Int}{v2:Int}{v3:(List Int)}{v4:Int}(hr:iQ v1 v2 v3=some (v4)):Spec (lim Tryz.prog) 47 [.v (.int .i64 v1),.v (.int .i64 v2),.fptr true [.func 88 [] [.fptr true [.list 1 (v3.map e_i)] 0]] 0] ⟨[.v (.int .i64 v4)],[]⟩:=by
 unfold iQ at hr
 have T:=an y48 <| @e_i.eq_1
 apply Spec.fn Tryz.func47 rfl
 focus (simp[Tryz.f47]<;>exact rfl)
 focus
  refine wA T (g:=?_)
  obtain⟨v5,h1,hr⟩:=bs hr
  apply TO.cal (wn T) rfl aAa (gT h1) rfl rfl rfl
  repeat exact sd T
  refine wa_ T (g:=?_)
  cases hr
  refine⟨.inr rfl,_,(ry T),?_⟩
  exact wr [] rfl .nil
 rfl
def y49:=an @ag115 <| an @ag3 <| an @cs115 <| an @xG <| an @xK <| an @ok115 <| an @st115 <| @zc115
theorem lD{v1:Int}{v2:Int}{v3:Int}{v4:Int}{v5:Int}(hr:cU v1 v2 v3=some (v4,v5)):Spec (lim Tryz.prog) 90 [.agg [.v (.int .i64 v1),.v (.int .i64 v2)],.v (.int .i64 v3)] ⟨[.agg [.v (.int .i64 v4),.v (.int .i64 v5)]],[]⟩:=by
 unfold cU at hr
 have T:=y49
 apply Spec.fn Tryz.func90 rfl
 focus (simp[Tryz.f90]<;>exact rfl)
 focus
  refine wB T (g:=?_)
  cases hr
  refine⟨.inr rfl,_,(ry T),?_⟩
  exact wr [] rfl .nil
 rfl
end Go.Rex
namespace Go.Rex
open Go.Proofs
open Go Go.Rex Go.RowKit
set_option maxRecDepth 100000
set_option maxHeartbeats 1000000
def y50:=an @ag115 <| an @by115 <| an @cs115 <| an @ok115 <| an @so90 <| an @zc115 <| @aV
theorem sX{v1:(List (Int×Int))}{v2:(List Int)}{v3:(List (Int×Int))}(hr:fC v1 v2=some (v3)):Spec (lim Tryz.prog) 46 [.list 2 (v1.map e_ii),.func 47 [] [.fptr true [.func 88 [] [.fptr true [.list 1 (v2.map e_i)] 0]] 0]] ⟨[.lsl 0 0 v3.length],[.rows 2 (v3.map e_ii)]⟩:=by
 unfold fC at hr
 have T:=an y50 <| an @e_i.eq_1 <| @e_ii.eq_1
 apply Spec.fn Tryz.func46 rfl
 focus (simp[Tryz.f46]<;>exact rfl)
 focus
  refine wc_ T (g:=?_)
  obtain⟨v4,h1,hr⟩:=bs hr
  apply TO.mk e_ii h1 (wn T) rfl rfl so90 zc115 by115 rfl rfl rfl
  repeat exact sd T
  refine wc_ T (g:=?_)
  obtain⟨v52,h30,hr⟩:=bs hr
  refine TX.loopE (step:=dC v1 v2 v4) (x:=(v4,0)) h30 (fun (v5,v6)=>⟨.list 2 (v1.map e_ii)::.func 47 [] [.fptr true [.func 88 [] [.fptr true [.list 1 (v2.map e_i)] 0]] 0]::.U::.U::.U::.lsl 0 0 v5.length::.U::.U::.U::.U::.U::.U::.U::.v (.int .i64 (v4.length:Int))::.v (.int .i64 v6)::.U::.U::.U::.U::.U::.U::.U::.U::.U::.U::.U::.U::.U::.U::.U::.U::.U::.U::.U::.U::.U::.U::.U::.U::.U::.U::[],[.rows 2 (v5.map e_ii)]⟩) (fun v29=>(.exit 0,⟨.U::.U::.U::.U::.U::.lsl 0 0 v29.length::.U::.U::.U::.U::.U::.U::.U::.U::.U::.U::.U::.U::.U::.U::.U::.U::.U::.U::.U::.U::.U::.U::.U::.U::.U::.U::.U::.U::.U::.U::.U::.U::.U::.U::.U::[],[.rows 2 (v29.map e_ii)]⟩)) ?_ ?_ ?_ ?_
  ·rintro⟨v5,v6⟩ v0 hr
   dsimp only[dC] at hr
   try dsimp only
   refine wa_ T (g:=?_)
   rcases ifs hr with⟨h16,hr⟩|⟨h16,hr⟩
   ·have T:=an h16 T
    refine wc_ T (g:=?_)
    obtain⟨v51,h29,hr⟩:=bs hr
    refine TX.loopE (step:=bM v1 v2 v6) (x:=(v5,0)) h29 (fun (v30,v31)=>⟨.list 2 (v1.map e_ii)::.func 47 [] [.fptr true [.func 88 [] [.fptr true [.list 1 (v2.map e_i)] 0]] 0]::.U::.U::.U::.lsl 0 0 v30.length::.v (.int .i64 v6)::.U::.U::.U::.U::.U::.U::.v (.int .i64 (v4.length:Int))::.v (.int .i64 v6)::.U::.U::.list 2 (v1.map e_ii)::.v (.int .i64 (v1.length:Int))::.v (.int .i64 v31)::.U::.U::.U::.U::.U::.U::.U::.U::.U::.U::.U::.U::.U::.U::.U::.U::.U::.U::.U::.U::.U::[],[.rows 2 (v30.map e_ii)]⟩) (fun v41=>(.exit 2,⟨.list 2 (v1.map e_ii)::.func 47 [] [.fptr true [.func 88 [] [.fptr true [.list 1 (v2.map e_i)] 0]] 0]::.U::.U::.U::.lsl 0 0 v41.length::.U::.U::.U::.U::.U::.U::.U::.v (.int .i64 (v4.length:Int))::.v (.int .i64 v6)::.U::.U::.U::.U::.U::.U::.U::.U::.U::.U::.U::.U::.U::.U::.U::.U::.U::.U::.U::.U::.U::.U::.U::.U::.U::.U::[],[.rows 2 (v41.map e_ii)]⟩)) ?_ ?_ ?_ ?_
    ·rintro⟨v30,v31⟩ v0 hr
     dsimp only[bM] at hr
     try dsimp only
     refine wa_ T (g:=?_)
     rcases ifs hr with⟨h23,hr⟩|⟨h23,hr⟩
     ·have T:=an h23 T
      refine wa_ T (g:=?_)
      obtain⟨⟨v42,v43⟩,h24,hr⟩:=bs hr
      try dsimp only at hr
      have T:=an (gx e_ii h24) T
      refine wA T (g:=?_)
      obtain⟨⟨v44,v45⟩,h25,hr⟩:=bs hr
      try dsimp only at hr
      have h25m:=eD (f:=e_ii) h25
      have h25l:=gC h25
      try simp only[List.length_set] at h25l
      have h25a:=gB h25
      have T:=an h25m T
      have T:=an h25l T
      have T:=an h25a T
      refine wA T (g:=?_)
      obtain⟨v46,h26,hr⟩:=bs hr
      apply TD.cal (wn T) rfl aCm (rR h26) rfl rfl rfl
      repeat exact sd T
      refine wa_ T (g:=?_)
      obtain⟨⟨v47,v48⟩,h27,hr⟩:=bs hr
      try dsimp only at hr
      apply TD.cal (wn T) rfl aAd (lD h27) rfl rfl rfl
      repeat exact sd T
      refine wa_ T (g:=?_)
      obtain⟨⟨v49,v50⟩,h28,hr⟩:=bs hr
      try dsimp only at hr
      apply TD.cal (wn T) rfl Rp (kK h28) rfl rfl rfl
      repeat exact sd T
      refine wa_ T (g:=?_)
      apply TD.sr e_ii v30 (v44,v45) (v49,v50) h25a (wn T) rfl rfl rfl rfl rfl ok115 (by rw[cs115];rfl) rfl rfl rfl rfl rfl
      repeat exact sd T
      refine wa_ T (g:=?_)
      cases hr
      refine⟨rfl,?_⟩
      exact wk_ T [some 0] rfl (.rows .nil rfl rfl)
     ·have T:=an h23 T
      refine wa_ T (g:=?_)
      cases hr
      refine⟨rfl,?_⟩
      exact wk_ T [some 0] rfl (.rows .nil rfl rfl)
    ·intro e h;cases h
    ·try dsimp only
     refine wa_ T (g:=?_)
     cases hr
     refine⟨rfl,?_⟩
     exact wk_ T [some 0] rfl (.rows .nil rfl rfl)
    ·try dsimp only
     exact wk_ T [some 0] rfl (.rows .nil rfl rfl)
   ·have T:=an h16 T
    refine wa_ T (g:=?_)
    cases hr
    refine⟨rfl,?_⟩
    exact wk_ T [some 0] rfl (.rows .nil rfl rfl)
  ·intro e h;cases h
  ·try dsimp only
   refine wa_ T (g:=?_)
   cases hr
   refine⟨.inr rfl,_,(ry T),?_⟩
   exact wr [some 0] rfl (.rows .nil rfl rfl)
  ·try dsimp only
   exact wr [some 0] rfl (.rows .nil rfl rfl)
 rfl
def y51:=an @ag26 <| an @ag84 <| an @cs26 <| an @cs84 <| an @cs87 <| an @cs94 <| an @ok26 <| an @ok84 <| an @ok94 <| an @so131 <| an @st84 <| an @zc84 <| an @zc87 <| @zc94
theorem rJ{v1:(List (Nat×Nat))}{v2:Int}{v3:(List Int)}{v4:Int}{v5:(List (Nat×Nat))}{v6:Int}(hr:kW v1 v2 v3 v4=some (v5,v6)):Spec (lim Tryz.prog) 12 [.list 1 (v1.map e_c),.agg [.v (.int .i64 v2),.list 1 (v3.map e_i)],.v (.int .i64 v4)] ⟨[.tuple [.lsl 0 0 v5.length,.v (.int .i64 v6)]],[.rows 1 (v5.map e_c)]⟩:=by
 unfold kW at hr
 have T:=an y51 <| an @e_c.eq_1 <| @e_i.eq_1
 apply Spec.fn Tryz.func12 rfl
 focus (simp[Tryz.f12]<;>exact rfl)
 focus
  refine wB T (g:=?_)
  obtain⟨v7,h1,hr⟩:=bs hr
  apply TD.cal (wn T) rfl Fs (jK h1) rfl rfl rfl
  repeat exact sd T
  refine wA T (g:=?_)
  obtain⟨⟨v8,v9,v10⟩,h2,hr⟩:=bs hr
  try dsimp only at hr
  apply TD.cal (wn T) rfl Ly (cZ h2) rfl rfl rfl
  repeat exact sd T
  refine we_ T (g:=?_)
  obtain⟨v11,h3,hr⟩:=bs hr
  apply TD.cal (wn T) rfl nL (sA h3) rfl rfl rfl
  repeat exact sd T
  refine wa_ T (g:=?_)
  rcases ifs hr with⟨h4,hr⟩|⟨h4,hr⟩
  ·have T:=an h4 T
   refine wa_ T (g:=?_)
   cases hr
   refine⟨.inr rfl,_,(ry T),?_⟩
   exact wk_ T [none] rfl (.virt .nil)
  ·have T:=an h4 T
   refine wa_ T (g:=?_)
   obtain⟨v12,h5,hr⟩:=bs hr
   apply TD.cal (wn T) rfl Ks (jJ h5) rfl rfl rfl
   repeat exact sd T
   refine wA T (g:=?_)
   obtain⟨v13,h6,hr⟩:=bs hr
   apply TD.cal (wn T) rfl vH (aL h6) rfl rfl rfl
   repeat exact sd T
   refine wa_ T (g:=?_)
   obtain⟨v14,h7,hr⟩:=bs hr
   first|apply TD.lok (wn T) rfl Rb (mL h7) (vw T) rfl rfl (by simp[kL,cl,e_ff,e_c,e_i,e_ii])|apply TD.lokw (wn T) rfl Rb (mL h7) (vw T) rfl rfl (by simp[kL,cl,e_ff,e_c,e_i,e_ii]) rfl
   repeat exact sd T
   refine wA T (g:=?_)
   obtain⟨v15,h8,hr⟩:=bs hr
   apply TD.cal (wn T) rfl aAR (lC h8) rfl rfl rfl
   repeat exact sd T
   refine wa_ T (g:=?_)
   obtain⟨⟨v16,v17⟩,h9,hr⟩:=bs hr
   try dsimp only at hr
   apply TO.lok (wn T) rfl Fd (gM h9) (vw T) rfl rfl (by simp[kL,cl,e_ff,e_c,e_i,e_ii])
   repeat exact sd T
   refine wa_ T (g:=?_)
   rcases ifs hr with⟨h10,hr⟩|⟨h10,hr⟩
   ·have T:=an h10 T
    refine wa_ T (g:=?_)
    cases hr
    refine⟨.inr rfl,_,(ry T),?_⟩
    exact wk_ T [none] rfl (.virt .nil)
   ·have T:=an h10 T
    refine wa_ T (g:=?_)
    apply TO.frz 3 rfl rfl
    repeat exact sd T
    refine wa_ T (g:=?_)
    obtain⟨v18,h11,hr⟩:=bs hr
    apply TO.lok (wn T) rfl aAt (sX h11) (vw T) rfl rfl (by simp[kL,cl,e_ff,e_c,e_i,e_ii])
    repeat exact sd T
    refine wa_ T (g:=?_)
    obtain⟨⟨v19,v20⟩,h12,hr⟩:=bs hr
    try dsimp only at hr
    apply TO.lok (wn T) rfl Fd (gM h12) (vw T) rfl rfl (by simp[kL,cl,e_ff,e_c,e_i,e_ii])
    repeat exact sd T
    refine wa_ T (g:=?_)
    cases hr
    refine⟨.inr rfl,_,(ry T),?_⟩
    exact wk_ T [some 6] rfl (.rows .nil rfl rfl)
 rfl
end Go.Rex
