/- Proofs that the program's functions do what these plain functions say. -/
import Derived.Test.YtneefkifalbplaaGB
import Derived.Test.YtneefkifalbplaaS
import Derived.Test.YtneefkifalbplaaG1
set_option linter.unusedSimpArgs false
set_option linter.unusedVariables false
set_option linter.defProp false
namespace Go.Rex
open Go.Proofs
open Go Go.Rex Go.RowKit
set_option maxRecDepth 100000
set_option maxHeartbeats 200000
def y48:=an @ag69 <| an @cs23 <| an @cs69 <| an @ok23 <| an @ok69 <| @zc23
theorem kN{v1:Int}{v2:(List Int)}{v3:Int}{v4:(List Int)}(hr:bG v1 v2 v3=some (v4)):Spec (lim Try.prog) 34 [.agg [.v (.int .i64 v1),.list 1 (v2.map e_i)],.v (.int .i64 v3)] ⟨[.func 62 [] [.fptr true [.list 1 (v4.map e_i)] 0]],[]⟩:=by
 unfold bG at hr
 have T:=an y48 <| @e_i.eq_1
 apply Spec.fn Try.func34 rfl
 focus (simp[Try.f34]<;>exact rfl)
 focus
  refine wB T (g:=?_)
  obtain⟨v5,h1,hr⟩:=bs hr
  apply TO.cal (wn T) rfl aAr (kU h1) rfl rfl rfl
  repeat exact sd T
  refine wa_ T (g:=?_)
  apply TO.frz 0 rfl rfl
  repeat exact sd T
  refine wa_ T (g:=?_)
  apply TO.frz 1 rfl rfl
  repeat exact sd T
  refine wa_ T (g:=?_)
  cases hr
  refine⟨.inr rfl,_,(ry T),?_⟩
  exact wr [] rfl .nil
 rfl
def y49:=an @ag88 <| an @cs88 <| an @ok88 <| an @st88 <| an @un3 <| an @un49 <| @zc88
theorem wH{v1:Nat}{v2:Nat}{v3:Int}{v4:Int}(hr:nH v1 v2=some (v3,v4)):Spec (lim Try.prog) 65 [.v (.complex .f32 v1 v2)] ⟨[.agg [.v (.int .i64 v3),.v (.int .i64 v4)]],[]⟩:=by
 unfold nH at hr
 have T:=y49
 apply Spec.fn Try.func65 rfl
 focus (simp[Try.f65]<;>exact rfl)
 focus
  refine wa_ T (g:=?_)
  apply TO.pop1 (wn T) (zR rfl)
  repeat exact sd T
  refine wa_ T (g:=?_)
  obtain⟨v5,h1,hr⟩:=bs hr
  apply TO.pop1 (wn T) (wS un49 un3 rfl h1)
  repeat exact sd T
  refine wa_ T (g:=?_)
  apply TO.pop1 (wn T) (zL rfl)
  repeat exact sd T
  refine wa_ T (g:=?_)
  obtain⟨v6,h2,hr⟩:=bs hr
  apply TO.pop1 (wn T) (wS un49 un3 rfl h2)
  repeat exact sd T
  refine wa_ T (g:=?_)
  cases hr
  refine⟨.inr rfl,_,(ry T),?_⟩
  exact wr [] rfl .nil
 rfl
def y50:=an @ag57 <| an @by88 <| an @cs57 <| an @cs88 <| an @ni76 <| an @ok57 <| an @so32 <| an @so76 <| an @zc88 <| @bF
theorem kZ{v1:(List (Nat×Nat))}{v2:(List (Int×Int))}(hr:cR v1=some (v2)):Spec (lim Try.prog) 36 [.list 1 (v1.map e_c)] ⟨[.lsl 0 0 v2.length],[.rows 2 (v2.map e_ii)]⟩:=by
 unfold cR at hr
 have T:=an y50 <| an @e_c.eq_1 <| @e_ii.eq_1
 apply Spec.fn Try.func36 rfl
 focus (simp[Try.f36]<;>exact rfl)
 focus
  refine wc_ T (g:=?_)
  apply TX.vt (α:=(Int×Int)) e_ii 3 2 rfl
  repeat exact sd T
  with_reducible apply TX.here
  refine wa_ T (g:=?_)
  obtain⟨v16,h9,hr⟩:=bs hr
  refine TX.loopE (step:=fA v1) (x:=(([]:List (Int×Int)),0)) h9 (fun (v3,v4)=>⟨.U::.U::.U::.lsl 0 0 v3.length::.U::.U::.list 1 (v1.map e_c)::.v (.int .i64 (v1.length:Int))::.v (.int .i64 v4)::.U::.U::.U::.U::.U::.U::.U::.U::.U::.U::[],[.rows 2 (v3.map e_ii)]⟩) (fun v10=>(.exit 0,⟨.U::.U::.U::.lsl 0 0 v10.length::.U::.U::.U::.U::.U::.U::.U::.U::.U::.U::.U::.U::.U::.U::.U::[],[.rows 2 (v10.map e_ii)]⟩)) ?_ ?_ ?_ ?_
  ·rintro⟨v3,v4⟩ v0 hr
   dsimp only[fA] at hr
   try dsimp only
   refine wa_ T (g:=?_)
   rcases ifs hr with⟨h5,hr⟩|⟨h5,hr⟩
   ·have T:=an h5 T
    refine wa_ T (g:=?_)
    obtain⟨⟨v11,v12⟩,h6,hr⟩:=bs hr
    try dsimp only at hr
    have h6m:=dZ (f:=e_c) h6
    have h6l:=fQ h6
    try simp only[List.length_set] at h6l
    have h6a:=fS h6
    have T:=an h6m T
    have T:=an h6l T
    have T:=an h6a T
    refine wA T (g:=?_)
    obtain⟨⟨v13,v14⟩,h7,hr⟩:=bs hr
    try dsimp only at hr
    apply TO.cal (wn T) rfl aBm (wH h7) rfl rfl rfl
    repeat exact sd T
    refine wa_ T (g:=?_)
    apply TO.bm e_ii ([(v13,v14)]:List (Int×Int)) (wn T) rfl (by simp only[zz,y50,e_c,e_ii,Nat.reduceAdd,Nat.reduceMul,Nat.reduceLeDiff,Nat.reduceEqDiff,tslice,tparts,h5,h6m,h6l,h6a];exact rfl) rfl
    repeat exact sd T
    refine wa_ T (g:=?_)
    obtain⟨v15,h8,hr⟩:=bs hr
    apply TO.ap (f:=e_ii) (xs:=v3) (ys:=([(v13,v14)]:List (Int×Int))) (wn T) rfl rfl (by first|rfl|simp only[List.length_set]) rfl rfl so76 ni76 zc88 rfl (by rw[by88];exact h8) (fun _=>⟨rfl,rfl,rfl⟩)
    repeat exact sd T
    refine wa_ T (g:=?_)
    cases hr
    refine⟨rfl,?_⟩
    exact wk_ T [some 0] rfl (.rows .nil rfl rfl)
   ·have T:=an h5 T
    refine wa_ T (g:=?_)
    cases hr
    refine⟨rfl,?_⟩
    exact wk_ T [some 0] rfl (.rows .nil rfl rfl)
  ·intro e h;cases h
  ·try dsimp only
   refine wa_ T (g:=?_)
   cases hr
   refine⟨.inr rfl,_,(ry T),?_⟩
   exact wr [some 0] rfl (.rows .nil rfl rfl)
  ·try dsimp only
   exact wr [some 0] rfl (.rows .nil rfl rfl)
 rfl
def y51:=an @ag23 <| an @ag3 <| an @cs3 <| an @ok3 <| @so23
theorem gD{v1:Int}{v2:(List Int)}{v3:Int}(hr:bB v1 v2=some (v3)):Spec (lim Try.prog) 62 [.v (.int .i64 v1),.fptr true [.list 1 (v2.map e_i)] 0] ⟨[.v (.int .i64 v3)],[]⟩:=by
 unfold bB at hr
 have T:=an y51 <| @e_i.eq_1
 apply Spec.fn Try.func62 rfl
 focus (simp[Try.f62]<;>exact rfl)
 focus
  refine wC T (g:=?_)
  obtain⟨v4,h1,hr⟩:=bs hr
  apply TD.cal (wn T) rfl Qf (nC h1) rfl rfl rfl
  repeat exact sd T
  refine wa_ T (g:=?_)
  obtain⟨v5,h2,hr⟩:=bs hr
  have T:=an (gx e_i h2) T
  refine wA T (g:=?_)
  cases hr
  refine⟨.inr rfl,_,(ry T),?_⟩
  exact wr [] rfl .nil
 rfl
def y52:=@ag74
theorem pV{v1:Int}{v2:Int}{v3:(List Int)}{v4:Int}(hr:eG v1 v2 v3=some (v4)):Spec (lim Try.prog) 37 [.v (.int .i64 v1),.v (.int .i64 v2),.fptr true [.func 62 [] [.fptr true [.list 1 (v3.map e_i)] 0]] 0] ⟨[.v (.int .i64 v4)],[]⟩:=by
 unfold eG at hr
 have T:=an y52 <| @e_i.eq_1
 apply Spec.fn Try.func37 rfl
 focus (simp[Try.f37]<;>exact rfl)
 focus
  refine wA T (g:=?_)
  obtain⟨v5,h1,hr⟩:=bs hr
  apply TO.cal (wn T) rfl Yl (gD h1) rfl rfl rfl
  repeat exact sd T
  refine wa_ T (g:=?_)
  cases hr
  refine⟨.inr rfl,_,(ry T),?_⟩
  exact wr [] rfl .nil
 rfl
def y53:=an @ag3 <| an @ag88 <| an @cs88 <| an @zT <| an @Ao <| an @ok88 <| an @st88 <| @zc88
theorem kS{v1:Int}{v2:Int}{v3:Int}{v4:Int}{v5:Int}(hr:cU v1 v2 v3=some (v4,v5)):Spec (lim Try.prog) 64 [.agg [.v (.int .i64 v1),.v (.int .i64 v2)],.v (.int .i64 v3)] ⟨[.agg [.v (.int .i64 v4),.v (.int .i64 v5)]],[]⟩:=by
 unfold cU at hr
 have T:=y53
 apply Spec.fn Try.func64 rfl
 focus (simp[Try.f64]<;>exact rfl)
 focus
  refine wB T (g:=?_)
  cases hr
  refine⟨.inr rfl,_,(ry T),?_⟩
  exact wr [] rfl .nil
 rfl
def y54:=an @ag3 <| an @ag88 <| an @cs88 <| an @zT <| an @Ao <| an @ok88 <| an @st88 <| @zc88
theorem jS{v1:Int}{v2:Int}{v3:Int}{v4:Int}{v5:Int}{v6:Int}(hr:cY v1 v2 v3 v4=some (v5,v6)):Spec (lim Try.prog) 63 [.agg [.v (.int .i64 v1),.v (.int .i64 v2)],.agg [.v (.int .i64 v3),.v (.int .i64 v4)]] ⟨[.agg [.v (.int .i64 v5),.v (.int .i64 v6)]],[]⟩:=by
 unfold cY at hr
 have T:=y54
 apply Spec.fn Try.func63 rfl
 focus (simp[Try.f63]<;>exact rfl)
 focus
  refine wB T (g:=?_)
  cases hr
  refine⟨.inr rfl,_,(ry T),?_⟩
  exact wr [] rfl .nil
 rfl
end Go.Rex
namespace Go.Rex
open Go.Proofs
open Go Go.Rex Go.RowKit
set_option maxRecDepth 100000
set_option maxHeartbeats 1000000
def y55:=an @ag88 <| an @by88 <| an @cs88 <| an @ok88 <| an @so76 <| an @zc88 <| @bF
theorem sP{v1:(List (Int×Int))}{v2:(List Int)}{v3:(List (Int×Int))}(hr:eZ v1 v2=some (v3)):Spec (lim Try.prog) 35 [.list 2 (v1.map e_ii),.func 37 [] [.fptr true [.func 62 [] [.fptr true [.list 1 (v2.map e_i)] 0]] 0]] ⟨[.lsl 0 0 v3.length],[.rows 2 (v3.map e_ii)]⟩:=by
 unfold eZ at hr
 have T:=an y55 <| an @e_i.eq_1 <| @e_ii.eq_1
 apply Spec.fn Try.func35 rfl
 focus (simp[Try.f35]<;>exact rfl)
 focus
  refine wc_ T (g:=?_)
  obtain⟨v4,h1,hr⟩:=bs hr
  apply TO.mk e_ii h1 (wn T) rfl rfl so76 zc88 by88 rfl rfl rfl
  repeat exact sd T
  refine wc_ T (g:=?_)
  obtain⟨v52,h30,hr⟩:=bs hr
  refine TX.loopE (step:=dF v1 v2 v4) (x:=(v4,0)) h30 (fun (v5,v6)=>⟨.list 2 (v1.map e_ii)::.func 37 [] [.fptr true [.func 62 [] [.fptr true [.list 1 (v2.map e_i)] 0]] 0]::.U::.U::.U::.lsl 0 0 v5.length::.U::.U::.U::.U::.U::.U::.U::.v (.int .i64 (v4.length:Int))::.v (.int .i64 v6)::.U::.U::.U::.U::.U::.U::.U::.U::.U::.U::.U::.U::.U::.U::.U::.U::.U::.U::.U::.U::.U::.U::.U::.U::.U::.U::[],[.rows 2 (v5.map e_ii)]⟩) (fun v29=>(.exit 0,⟨.U::.U::.U::.U::.U::.lsl 0 0 v29.length::.U::.U::.U::.U::.U::.U::.U::.U::.U::.U::.U::.U::.U::.U::.U::.U::.U::.U::.U::.U::.U::.U::.U::.U::.U::.U::.U::.U::.U::.U::.U::.U::.U::.U::.U::[],[.rows 2 (v29.map e_ii)]⟩)) ?_ ?_ ?_ ?_
  ·rintro⟨v5,v6⟩ v0 hr
   dsimp only[dF] at hr
   try dsimp only
   refine wa_ T (g:=?_)
   rcases ifs hr with⟨h16,hr⟩|⟨h16,hr⟩
   ·have T:=an h16 T
    refine wc_ T (g:=?_)
    obtain⟨v51,h29,hr⟩:=bs hr
    refine TX.loopE (step:=bL v1 v2 v6) (x:=(v5,0)) h29 (fun (v30,v31)=>⟨.list 2 (v1.map e_ii)::.func 37 [] [.fptr true [.func 62 [] [.fptr true [.list 1 (v2.map e_i)] 0]] 0]::.U::.U::.U::.lsl 0 0 v30.length::.v (.int .i64 v6)::.U::.U::.U::.U::.U::.U::.v (.int .i64 (v4.length:Int))::.v (.int .i64 v6)::.U::.U::.list 2 (v1.map e_ii)::.v (.int .i64 (v1.length:Int))::.v (.int .i64 v31)::.U::.U::.U::.U::.U::.U::.U::.U::.U::.U::.U::.U::.U::.U::.U::.U::.U::.U::.U::.U::.U::[],[.rows 2 (v30.map e_ii)]⟩) (fun v41=>(.exit 2,⟨.list 2 (v1.map e_ii)::.func 37 [] [.fptr true [.func 62 [] [.fptr true [.list 1 (v2.map e_i)] 0]] 0]::.U::.U::.U::.lsl 0 0 v41.length::.U::.U::.U::.U::.U::.U::.U::.v (.int .i64 (v4.length:Int))::.v (.int .i64 v6)::.U::.U::.U::.U::.U::.U::.U::.U::.U::.U::.U::.U::.U::.U::.U::.U::.U::.U::.U::.U::.U::.U::.U::.U::.U::.U::[],[.rows 2 (v41.map e_ii)]⟩)) ?_ ?_ ?_ ?_
    ·rintro⟨v30,v31⟩ v0 hr
     dsimp only[bL] at hr
     try dsimp only
     refine wa_ T (g:=?_)
     rcases ifs hr with⟨h23,hr⟩|⟨h23,hr⟩
     ·have T:=an h23 T
      refine wa_ T (g:=?_)
      obtain⟨⟨v42,v43⟩,h24,hr⟩:=bs hr
      try dsimp only at hr
      have T:=an (gx e_ii h24) T
      refine wA T (g:=?_)
      obtain⟨⟨v44,v45⟩,h25,hr⟩:=bs hr
      try dsimp only at hr
      have h25m:=dZ (f:=e_ii) h25
      have h25l:=fQ h25
      try simp only[List.length_set] at h25l
      have h25a:=fS h25
      have T:=an h25m T
      have T:=an h25l T
      have T:=an h25a T
      refine wA T (g:=?_)
      obtain⟨v46,h26,hr⟩:=bs hr
      apply TD.cal (wn T) rfl aBq (pV h26) rfl rfl rfl
      repeat exact sd T
      refine wa_ T (g:=?_)
      obtain⟨⟨v47,v48⟩,h27,hr⟩:=bs hr
      try dsimp only at hr
      apply TD.cal (wn T) rfl Ys (kS h27) rfl rfl rfl
      repeat exact sd T
      refine wa_ T (g:=?_)
      obtain⟨⟨v49,v50⟩,h28,hr⟩:=bs hr
      try dsimp only at hr
      apply TD.cal (wn T) rfl Px (jS h28) rfl rfl rfl
      repeat exact sd T
      refine wa_ T (g:=?_)
      apply TD.sr e_ii v30 (v44,v45) (v49,v50) h25a (wn T) rfl rfl rfl rfl rfl ok88 (by rw[cs88];rfl) rfl rfl rfl rfl rfl
      repeat exact sd T
      refine wa_ T (g:=?_)
      cases hr
      refine⟨rfl,?_⟩
      exact wk_ T [some 0] rfl (.rows .nil rfl rfl)
     ·have T:=an h23 T
      refine wa_ T (g:=?_)
      cases hr
      refine⟨rfl,?_⟩
      exact wk_ T [some 0] rfl (.rows .nil rfl rfl)
    ·intro e h;cases h
    ·try dsimp only
     refine wa_ T (g:=?_)
     cases hr
     refine⟨rfl,?_⟩
     exact wk_ T [some 0] rfl (.rows .nil rfl rfl)
    ·try dsimp only
     exact wk_ T [some 0] rfl (.rows .nil rfl rfl)
   ·have T:=an h16 T
    refine wa_ T (g:=?_)
    cases hr
    refine⟨rfl,?_⟩
    exact wk_ T [some 0] rfl (.rows .nil rfl rfl)
  ·intro e h;cases h
  ·try dsimp only
   refine wa_ T (g:=?_)
   cases hr
   refine⟨.inr rfl,_,(ry T),?_⟩
   exact wr [some 0] rfl (.rows .nil rfl rfl)
  ·try dsimp only
   exact wr [some 0] rfl (.rows .nil rfl rfl)
 rfl
end Go.Rex
namespace Go.Rex
open Go.Proofs
open Go Go.Rex Go.RowKit
set_option maxRecDepth 100000
set_option maxHeartbeats 200000
def y56:=an @ag3 <| an @ag88 <| an @by88 <| an @cs88 <| an @zT <| an @Ao <| an @ni76 <| an @ok88 <| an @so76 <| an @st88 <| an @zc88 <| @bF
theorem wW{v1:(List (Int×Int))}{v2:Int}{v3:(List (Int×Int))}{v4:Bool}(hr:kF v1 v2=some (v3,v4)):Spec (lim Try.prog) 38 [.list 2 (v1.map e_ii),.v (.int .i64 v2)] ⟨[.tuple [.lsl 0 0 v3.length,.v (.bool v4)]],[.rows 2 (v3.map e_ii)]⟩:=by
 unfold kF at hr
 have T:=an y56 <| @e_ii.eq_1
 apply Spec.fn Try.func38 rfl
 focus (simp[Try.f38]<;>exact rfl)
 focus
  refine wc_ T (g:=?_)
  apply TX.vt (α:=(Int×Int)) e_ii 6 2 rfl
  repeat exact sd T
  with_reducible apply TX.here
  refine wa_ T (g:=?_)
  obtain⟨v14,h13,hr⟩:=bs hr
  refine TX.loopE (step:=gH v1 v2) (x:=(([]:List (Int×Int)),0)) h13 (fun (v5,v6)=>⟨.U::.v (.int .i64 v2)::.U::.U::.U::.U::.lsl 0 0 v5.length::.U::.U::.list 2 (v1.map e_ii)::.v (.int .i64 (v1.length:Int))::.v (.int .i64 v6)::.U::.U::.U::.U::.U::.U::.U::.U::.U::.U::.U::.U::.U::.U::.U::.U::.U::.U::.U::.U::.U::.U::.U::.U::.U::.U::.U::.U::.U::[],[.rows 2 (v5.map e_ii)]⟩) (fun e=>match e with|(.inl _)=>(.ret,⟨.U::.U::.U::.U::.v (.slice none 0 0)::.v (.bool false)::.U::.U::.U::.U::.U::.U::.U::.U::.U::.U::.U::.U::.U::.U::.U::.U::.U::.U::.U::.U::.U::.U::.U::.U::.U::.U::.U::.U::.U::.U::.U::.U::.U::.U::.U::[],[]⟩)|(.inr v10)=>(.exit 0,⟨.U::.U::.U::.U::.U::.U::.lsl 0 0 v10.length::.U::.U::.U::.U::.U::.U::.U::.U::.U::.U::.U::.U::.U::.U::.U::.U::.U::.U::.U::.U::.U::.U::.U::.U::.U::.U::.U::.U::.U::.U::.U::.U::.U::.U::[],[.rows 2 (v10.map e_ii)]⟩)) ?_ ?_ ?_ ?_
  ·rintro⟨v5,v6⟩ v0 hr
   dsimp only[gH] at hr
   try dsimp only
   refine wa_ T (g:=?_)
   rcases ifs hr with⟨h7,hr⟩|⟨h7,hr⟩
   ·have T:=an h7 T
    refine wa_ T (g:=?_)
    obtain⟨⟨v11,v12⟩,h8,hr⟩:=bs hr
    try dsimp only at hr
    have h8m:=dZ (f:=e_ii) h8
    have h8l:=fQ h8
    try simp only[List.length_set] at h8l
    have h8a:=fS h8
    have T:=an h8m T
    have T:=an h8l T
    have T:=an h8a T
    refine wA T (g:=?_)
    by_cases h9:v2=0
    ·rw[if_pos h9] at hr
     cases hr
    ·rw[if_neg h9] at hr
     have T:=an h9 T
     refine wa_ T (g:=?_)
     rcases ifs hr with⟨h10,hr⟩|⟨h10,hr⟩
     ·have T:=an h10 T
      refine wa_ T (g:=?_)
      cases hr
      refine⟨rfl,?_⟩
      exact wk_ T [] rfl .nil
     ·have T:=an h10 T
      refine wA T (g:=?_)
      rcases ifs hr with⟨h11,hr⟩|⟨h11,hr⟩
      ·have T:=an h11 T
       refine wa_ T (g:=?_)
       cases hr
       refine⟨rfl,?_⟩
       exact wk_ T [] rfl .nil
      ·have T:=an h11 T
       refine wA T (g:=?_)
       apply TD.bm e_ii ([((IntKind.i64.wrap (v11.tdiv v2)),(IntKind.i64.wrap (v12.tdiv v2)))]:List (Int×Int)) (wn T) rfl (by simp only[zz,y56,e_ii,Nat.reduceAdd,Nat.reduceMul,Nat.reduceLeDiff,Nat.reduceEqDiff,tslice,tparts,h7,h8m,h8l,h8a,h9,h10,h11];exact rfl) rfl
       repeat exact sd T
       refine wa_ T (g:=?_)
       obtain⟨v13,h12,hr⟩:=bs hr
       apply TD.ap (f:=e_ii) (xs:=v5) (ys:=([((IntKind.i64.wrap (v11.tdiv v2)),(IntKind.i64.wrap (v12.tdiv v2)))]:List (Int×Int))) (wn T) rfl rfl (by first|rfl|simp only[List.length_set]) rfl rfl so76 ni76 zc88 rfl (by rw[by88];exact h12) (fun _=>⟨rfl,rfl,rfl⟩) rfl
       repeat exact sd T
       refine wa_ T (g:=?_)
       cases hr
       refine⟨rfl,?_⟩
       exact wk_ T [some 0] rfl (.rows .nil rfl rfl)
   ·have T:=an h7 T
    refine wa_ T (g:=?_)
    cases hr
    refine⟨rfl,?_⟩
    exact wk_ T [some 0] rfl (.rows .nil rfl rfl)
  ·intro e h;rcases e with _|e<;>cases h
  ·try dsimp only
   rcases v14 with _|v15
   ·try dsimp only at hr
    try dsimp only
    refine wa_ T (g:=?_)
    cases hr
    refine⟨.inr rfl,_,(ry T),?_⟩
    exact wr [none] rfl (.virt .nil)
   ·try dsimp only at hr
    try dsimp only
    refine wa_ T (g:=?_)
    cases hr
    refine⟨.inr rfl,_,(ry T),?_⟩
    exact wr [some 0] rfl (.rows .nil rfl rfl)
  ·try dsimp only
   exact wr [some 0] rfl (.rows .nil rfl rfl)
 rfl
theorem vF{v1:Int}{v2:(List (Int×Int))}{v3:Int}{v4:(List (Int×Int))}(hr:mK v1 v2=some (v3,v4)):Spec (lim Try.prog) 55 [.v (.int .i64 v1),.func 66 [] [.fptr true [.list 2 (v2.map e_ii)] 0]] ⟨[.func 77 [] [.fptr true [.v (.int .i64 v3)] 0,.fptr true [.func 66 [] [.fptr true [.list 2 (v4.map e_ii)] 0]] 0]],[]⟩:=by
 unfold mK at hr
 have T:=@e_ii.eq_1
 apply Spec.fn Try.func55 rfl
 focus (simp[Try.f55]<;>exact rfl)
 focus
  refine wb_ T (g:=?_)
  cases hr
  refine⟨.inr rfl,_,(ry T),?_⟩
  exact wr [] rfl .nil
 rfl
theorem nU{v1:Int}{v2:Int}{v3:Bool}(hr:fT v1 v2=some (v3)):Spec (lim Try.prog) 83 [.v (.int .i64 v1),.v (.int .i64 v2)] ⟨[.v (.bool v3)],[]⟩:=by
 unfold fT at hr
 have T:=trivial
 apply Spec.fn Try.func83 rfl
 focus (simp[Try.f83]<;>exact rfl)
 focus
  refine wa_ T (g:=?_)
  apply TO.pop1 (wn T) (Kv rfl)
  repeat exact sd T
  refine wa_ T (g:=?_)
  rcases ifs hr with⟨h1,hr⟩|⟨h1,hr⟩
  ·have T:=an h1 T
   refine wa_ T (g:=?_)
   cases hr
   refine⟨.inr rfl,_,(ry T),?_⟩
   exact wk_ T [] rfl .nil
  ·have T:=an h1 T
   refine wa_ T (g:=?_)
   cases hr
   refine⟨.inr rfl,_,(ry T),?_⟩
   exact wk_ T [] rfl .nil
 rfl
def y57:=an @ag3 <| an @zT <| @Ao
theorem rU{v1:Int}{v2:Int}{v3:Int}{v4:Bool}{v5:Int}(hr:gX v1 v2 v3=some (v4,v5)):Spec (lim Try.prog) 67 [.agg [.v (.int .i64 v1),.v (.int .i64 v2)],.v (.int .i64 v3)] ⟨[.func 61 [] [.fptr true [.v (.bool v4)] 0,.fptr true [.v (.int .i64 v5)] 0]],[]⟩:=by
 unfold gX at hr
 have T:=y57
 apply Spec.fn Try.func67 rfl
 focus (simp[Try.f67]<;>exact rfl)
 focus
  refine wB T (g:=?_)
  obtain⟨v6,h1,hr⟩:=bs hr
  apply TO.cal (wn T) rfl Zc (nU h1) rfl rfl rfl
  repeat exact sd T
  refine wa_ T (g:=?_)
  apply TO.pop1 (wn T) (dM rfl)
  repeat exact sd T
  refine wa_ T (g:=?_)
  rcases ifs hr with⟨h2,hr⟩|⟨h2,hr⟩
  ·have T:=an h2 T
   refine wA T (g:=?_)
   obtain⟨v7,h3,hr⟩:=bs hr
   apply TO.cal (wn T) rfl Zc (nU h3) rfl rfl rfl
   repeat exact sd T
   refine wa_ T (g:=?_)
   apply TO.pop1 (wn T) (dM rfl)
   repeat exact sd T
   refine wa_ T (g:=?_)
   obtain⟨⟨v8,v9⟩,h4,hr⟩:=bs hr
   try dsimp only at hr
   apply TO.cal (wn T) rfl gQ (aF h4) rfl rfl rfl
   repeat exact sd T
   refine wa_ T (g:=?_)
   cases hr
   refine⟨.inr rfl,_,(ry T),?_⟩
   exact wk_ T [] rfl .nil
  ·have T:=an h2 T
   refine wa_ T (g:=?_)
   obtain⟨⟨v10,v11⟩,h5,hr⟩:=bs hr
   try dsimp only at hr
   apply TO.cal (wn T) rfl gQ (aF h5) rfl rfl rfl
   repeat exact sd T
   refine wa_ T (g:=?_)
   cases hr
   refine⟨.inr rfl,_,(ry T),?_⟩
   exact wk_ T [] rfl .nil
 rfl
def y58:=an @ag76 <| an @ag88 <| an @cs88 <| an @ok88 <| @so76
theorem pS{v1:Int}{v2:(List (Int×Int))}{v3:Int}(hr:gC v1 v2=some (v3)):Spec (lim Try.prog) 66 [.v (.int .i64 v1),.fptr true [.list 2 (v2.map e_ii)] 0] ⟨[.v (.int .i64 v3)],[]⟩:=by
 unfold gC at hr
 have T:=an y58 <| @e_ii.eq_1
 apply Spec.fn Try.func66 rfl
 focus (simp[Try.f66]<;>exact rfl)
 focus
  refine wA T (g:=?_)
  obtain⟨⟨v4,v5⟩,h1,hr⟩:=bs hr
  try dsimp only at hr
  have T:=an (gx e_ii h1) T
  refine wA T (g:=?_)
  obtain⟨⟨v6,v7⟩,h2,hr⟩:=bs hr
  try dsimp only at hr
  apply TO.cal (wn T) rfl aB5 (rU h2) rfl rfl rfl
  repeat exact sd T
  refine wa_ T (g:=?_)
  obtain⟨v8,h3,hr⟩:=bs hr
  apply TO.cal (wn T) rfl jT (aC h3) rfl rfl rfl
  repeat exact sd T
  refine wa_ T (g:=?_)
  cases hr
  refine⟨.inr rfl,_,(ry T),?_⟩
  exact wr [] rfl .nil
 rfl
def y59:=an @ag3 <| an @ag95 <| @bF
theorem sF{v1:Int}{v2:(List (Int×Int))}{v3:Int}(hr:jY v1 v2=some (v3)):Spec (lim Try.prog) 77 [.fptr true [.v (.int .i64 v1)] 0,.fptr true [.func 66 [] [.fptr true [.list 2 (v2.map e_ii)] 0]] 0] ⟨[.v (.int .i64 v3)],[]⟩:=by
 unfold jY at hr
 have T:=an y59 <| @e_ii.eq_1
 apply Spec.fn Try.func77 rfl
 focus (simp[Try.f77]<;>exact rfl)
 focus
  refine wA T (g:=?_)
  obtain⟨v8,h7,hr⟩:=bs hr
  refine TX.loopE (step:=cA v1 v2) (x:=0) h7 (fun v4=>⟨.U::.fptr true [.func 66 [] [.fptr true [.list 2 (v2.map e_ii)] 0]] 0::.U::.U::.U::.v (.int .i64 v1)::.v (.int .i64 v4)::.U::.U::.U::.U::.U::.U::.U::.U::.U::[],[]⟩) (fun e=>match e with|(.inl v6)=>(.ret,⟨.U::.U::.v (.int .i64 v6)::.U::.U::.U::.U::.U::.U::.U::.U::.U::.U::.U::.U::.U::[],[]⟩)|(.inr _)=>(.exit 0,⟨.U::.U::.U::.U::.U::.U::.U::.U::.U::.U::.U::.U::.U::.U::.U::.U::[],[]⟩)) ?_ ?_ ?_ ?_
  ·rintro v4 v0 hr
   dsimp only[cA] at hr
   try dsimp only
   refine wa_ T (g:=?_)
   rcases ifs hr with⟨h4,hr⟩|⟨h4,hr⟩
   ·have T:=an h4 T
    refine wA T (g:=?_)
    obtain⟨v7,h5,hr⟩:=bs hr
    apply TO.cal (wn T) rfl aCA (pS h5) rfl rfl rfl
    repeat exact sd T
    refine wa_ T (g:=?_)
    rcases ifs hr with⟨h6,hr⟩|⟨h6,hr⟩
    ·have T:=an h6 T
     refine wa_ T (g:=?_)
     cases hr
     refine⟨rfl,?_⟩
     exact wk_ T [] rfl .nil
    ·have T:=an h6 T
     refine wa_ T (g:=?_)
     cases hr
     refine⟨rfl,?_⟩
     exact wk_ T [] rfl .nil
   ·have T:=an h4 T
    refine wa_ T (g:=?_)
    cases hr
    refine⟨rfl,?_⟩
    exact wk_ T [] rfl .nil
  ·intro e h;rcases e with _|e<;>cases h
  ·try dsimp only
   rcases v8 with v9|_
   ·try dsimp only at hr
    try dsimp only
    refine wa_ T (g:=?_)
    cases hr
    refine⟨.inr rfl,_,(ry T),?_⟩
    exact wr [] rfl .nil
   ·try dsimp only at hr
    try dsimp only
    refine wa_ T (g:=?_)
    cases hr
    refine⟨.inr rfl,_,(ry T),?_⟩
    exact wr [] rfl .nil
  ·try dsimp only
   exact wr [] rfl .nil
 rfl
def y60:=an @ag3 <| an @ag76 <| an @ag88 <| an @by57 <| an @cs57 <| an @cs88 <| an @zT <| an @Ao <| an @ni32 <| an @ok88 <| an @so32 <| an @so76 <| an @un3 <| an @un49 <| an @zc57 <| an @zc88 <| @bF
theorem jF{v1:(List (Int×Int))}{v2:(List (Nat×Nat))}{v3:Int}(hr:bV v1=some (v2,v3)):Spec (lim Try.prog) 39 [.list 2 (v1.map e_ii)] ⟨[.tuple [.lsl 0 0 v2.length,.v (.int .i64 v3)]],[.rows 1 (v2.map e_c)]⟩:=by
 unfold bV at hr
 have T:=an y60 <| an @e_c.eq_1 <| @e_ii.eq_1
 apply Spec.fn Try.func39 rfl
 focus (simp[Try.f39]<;>exact rfl)
 focus
  refine wD T (g:=?_)
  obtain⟨⟨v4,v5⟩,h1,hr⟩:=bs hr
  try dsimp only at hr
  apply TO.cal (wn T) rfl Rl (vF h1) rfl rfl rfl
  repeat exact sd T
  refine wa_ T (g:=?_)
  obtain⟨v6,h2,hr⟩:=bs hr
  apply TO.cal (wn T) rfl Qr (sF h2) rfl rfl rfl
  repeat exact sd T
  refine wa_ T (g:=?_)
  rcases ifs hr with⟨h3,hr⟩|⟨h3,hr⟩
  ·have T:=an h3 T
   refine wa_ T (g:=?_)
   cases hr
   refine⟨.inr rfl,_,(ry T),?_⟩
   exact wk_ T [none] rfl (.virt .nil)
  ·have T:=an h3 T
   refine wC T (g:=?_)
   apply TX.vt (α:=(Nat×Nat)) e_c 5 1 rfl
   repeat exact sd T
   with_reducible apply TX.here
   refine wa_ T (g:=?_)
   obtain⟨v16,h10,hr⟩:=bs hr
   refine TX.loopE (step:=eA v1) (x:=(([]:List (Nat×Nat)),0)) h10 (fun (v7,v8)=>⟨.U::.U::.U::.U::.U::.lsl 0 0 v7.length::.U::.U::.U::.U::.U::.U::.U::.U::.U::.U::.list 2 (v1.map e_ii)::.v (.int .i64 (v1.length:Int))::.v (.int .i64 v8)::.U::.U::.U::.U::.U::.U::.U::.U::.U::.U::.U::.U::.U::.U::.U::[],[.rows 1 (v7.map e_c)]⟩) (fun v12=>(.exit 0,⟨.U::.U::.U::.U::.U::.lsl 0 0 v12.length::.U::.U::.U::.U::.U::.U::.U::.U::.U::.U::.U::.U::.U::.U::.U::.U::.U::.U::.U::.U::.U::.U::.U::.U::.U::.U::.U::.U::[],[.rows 1 (v12.map e_c)]⟩)) ?_ ?_ ?_ ?_
   ·rintro⟨v7,v8⟩ v0 hr
    dsimp only[eA] at hr
    try dsimp only
    refine wa_ T (g:=?_)
    rcases ifs hr with⟨h7,hr⟩|⟨h7,hr⟩
    ·have T:=an h7 T
     refine wa_ T (g:=?_)
     obtain⟨⟨v13,v14⟩,h8,hr⟩:=bs hr
     try dsimp only at hr
     have h8m:=dZ (f:=e_ii) h8
     have h8l:=fQ h8
     try simp only[List.length_set] at h8l
     have h8a:=fS h8
     have T:=an h8m T
     have T:=an h8l T
     have T:=an h8a T
     refine wA T (g:=?_)
     apply TO.pop1 (wn T) (oN un3 un49 rfl)
     repeat exact sd T
     refine wA T (g:=?_)
     apply TO.pop1 (wn T) (oN un3 un49 rfl)
     repeat exact sd T
     refine wa_ T (g:=?_)
     apply TO.pop1 (wn T) (By rfl rfl)
     repeat exact sd T
     refine wa_ T (g:=?_)
     apply TO.bm e_c ([((FloatKind.f32.nearest v13),(FloatKind.f32.nearest v14))]:List (Nat×Nat)) (wn T) rfl (by simp only[zz,y60,e_c,e_ii,Nat.reduceAdd,Nat.reduceMul,Nat.reduceLeDiff,Nat.reduceEqDiff,tslice,tparts,h3,h7,h8m,h8l,h8a];exact rfl) rfl
     repeat exact sd T
     refine wa_ T (g:=?_)
     obtain⟨v15,h9,hr⟩:=bs hr
     apply TO.ap (f:=e_c) (xs:=v7) (ys:=([((FloatKind.f32.nearest v13),(FloatKind.f32.nearest v14))]:List (Nat×Nat))) (wn T) rfl rfl (by first|rfl|simp only[List.length_set]) rfl rfl so32 ni32 zc57 rfl (by rw[by57];exact h9) (fun _=>⟨rfl,rfl,rfl⟩)
     repeat exact sd T
     refine wa_ T (g:=?_)
     cases hr
     refine⟨rfl,?_⟩
     exact wk_ T [some 0] rfl (.rows .nil rfl rfl)
    ·have T:=an h7 T
     refine wa_ T (g:=?_)
     cases hr
     refine⟨rfl,?_⟩
     exact wk_ T [some 0] rfl (.rows .nil rfl rfl)
   ·intro e h;cases h
   ·try dsimp only
    refine wa_ T (g:=?_)
    cases hr
    refine⟨.inr rfl,_,(ry T),?_⟩
    exact wk_ T [some 0] rfl (.rows .nil rfl rfl)
   ·try dsimp only
    exact wk_ T [some 0] rfl (.rows .nil rfl rfl)
 rfl
end Go.Rex
namespace Go.Rex
open Go.Proofs
open Go Go.Rex Go.RowKit
set_option maxRecDepth 100000
set_option maxHeartbeats 1000000
def y61:=an @ag25 <| an @ag32 <| an @ag69 <| an @cs25 <| an @cs61 <| an @cs69 <| an @cs74 <| an @ok25 <| an @ok69 <| an @ok74 <| an @so92 <| an @st69 <| an @zc61 <| an @zc69 <| @zc74
theorem wG{v1:(List (Nat×Nat))}{v2:Int}{v3:(List Int)}{v4:Int}{v5:(List (Nat×Nat))}{v6:Int}(hr:jL v1 v2 v3 v4=some (v5,v6)):Spec (lim Try.prog) 10 [.list 1 (v1.map e_c),.agg [.v (.int .i64 v2),.list 1 (v3.map e_i)],.v (.int .i64 v4)] ⟨[.tuple [.lsl 0 0 v5.length,.v (.int .i64 v6)]],[.rows 1 (v5.map e_c)]⟩:=by
 unfold jL at hr
 have T:=an y61 <| an @e_c.eq_1 <| @e_i.eq_1
 apply Spec.fn Try.func10 rfl
 focus (simp[Try.f10]<;>exact rfl)
 focus
  refine wB T (g:=?_)
  obtain⟨v7,h1,hr⟩:=bs hr
  apply TD.cal (wn T) rfl Pi (nR h1) rfl rfl rfl
  repeat exact sd T
  refine wA T (g:=?_)
  obtain⟨⟨v8,v9,v10⟩,h2,hr⟩:=bs hr
  try dsimp only at hr
  apply TD.cal (wn T) rfl Rf (fM h2) rfl rfl rfl
  repeat exact sd T
  refine wA T (g:=?_)
  apply TD.frz 0 rfl rfl
  repeat exact sd T
  refine we_ T (g:=?_)
  obtain⟨v11,h3,hr⟩:=bs hr
  apply TD.cal (wn T) rfl nZ (qB h3) rfl rfl rfl
  repeat exact sd T
  refine wa_ T (g:=?_)
  rcases ifs hr with⟨h4,hr⟩|⟨h4,hr⟩
  ·have T:=an h4 T
   refine wa_ T (g:=?_)
   cases hr
   refine⟨.inr rfl,_,(ry T),?_⟩
   exact wk_ T [none] rfl (.virt .nil)
  ·have T:=an h4 T
   refine wA T (g:=?_)
   obtain⟨v12,h5,hr⟩:=bs hr
   apply TO.cal (wn T) rfl Wg (kN h5) rfl rfl rfl
   repeat exact sd T
   refine wA T (g:=?_)
   obtain⟨v13,h6,hr⟩:=bs hr
   apply TO.cal (wn T) rfl Rs (kZ h6) rfl rfl rfl
   repeat exact sd T
   refine wa_ T (g:=?_)
   apply TO.frz 1 rfl rfl
   repeat exact sd T
   refine wa_ T (g:=?_)
   obtain⟨v14,h7,hr⟩:=bs hr
   apply TO.lok (wn T) rfl Wo (sP h7) (vw T) rfl rfl (by simp[nA,cl,e_i,e_c,e_ii])
   repeat exact sd T
   refine wA T (g:=?_)
   obtain⟨v15,h8,hr⟩:=bs hr
   apply TO.cal (wn T) rfl vM (aL h8) rfl rfl rfl
   repeat exact sd T
   refine wa_ T (g:=?_)
   obtain⟨⟨v16,v17⟩,h9,hr⟩:=bs hr
   try dsimp only at hr
   apply TO.lok (wn T) rfl aB8 (wW h9) (vw T) rfl rfl (by simp[nA,cl,e_i,e_c,e_ii])
   repeat exact sd T
   refine wa_ T (g:=?_)
   apply TO.pop1 (wn T) (dM rfl)
   repeat exact sd T
   refine wa_ T (g:=?_)
   rcases ifs hr with⟨h10,hr⟩|⟨h10,hr⟩
   ·have T:=an h10 T
    refine wa_ T (g:=?_)
    obtain⟨⟨v18,v19⟩,h11,hr⟩:=bs hr
    try dsimp only at hr
    apply TO.lok (wn T) rfl Hv (jF h11) (vw T) rfl rfl (by simp[nA,cl,e_i,e_c,e_ii])
    repeat exact sd T
    refine wa_ T (g:=?_)
    cases hr
    refine⟨.inr rfl,_,(ry T),?_⟩
    exact wk_ T [some 5] rfl (.rows .nil rfl rfl)
   ·have T:=an h10 T
    refine wa_ T (g:=?_)
    cases hr
    refine⟨.inr rfl,_,(ry T),?_⟩
    exact wk_ T [none] rfl (.virt .nil)
 rfl
end Go.Rex
namespace Go.Rex
open Go.Proofs
open Go Go.Rex Go.RowKit
set_option maxRecDepth 100000
set_option maxHeartbeats 200000
def y62:=an @ag25 <| an @ag27 <| an @cs25 <| an @cs27 <| an @Ka <| an @ok25 <| an @ok27 <| @zc27
theorem wE{v1:Int}{v2:(List Int)}{v3:Int}{v4:Int}{v5:(List Int)}{v6:Int}(hr:nE v1 v2 v3=some (v4,v5,v6)):Spec (lim Try.prog) 14 [.agg [.v (.int .i64 v1),.list 1 (v2.map e_i),.v (.int .i64 v3)]] ⟨[.agg [.v (.int .i64 v4),.lsl 0 0 v5.length,.v (.int .i64 v6)]],[.rows 1 (v5.map e_i)]⟩:=by
 unfold nE at hr
 have T:=an y62 <| @e_i.eq_1
 apply Spec.fn Try.func14 rfl
 focus (simp[Try.f14]<;>exact rfl)
 focus
  repeat (first|(with_reducible first|refine mv ?_|refine m12 rfl ?_|refine TO.nil ?_)|((with_reducible first|apply TO.bx (dst:=some 1)|apply TO.al|apply TO.fa|apply TO.ld);(repeat (focus (show _=_;first|exact k1 rfl|exact k2 rfl|(simp only[zz,y62,e_i,Nat.reduceAdd,Nat.reduceMul,Nat.reduceLeDiff,Nat.reduceEqDiff,aM,tload,aN,aP,List.getElem?_map]<;>exact rfl)|exact rfl)));(with_reducible apply TO.here))|((with_reducible apply TX.region);(focus (simp only[zl]<;>exact rfl));(focus rfl);(try dsimp only))|fail)
  obtain⟨⟨v7,v8⟩,h1,hr⟩:=bs hr
  try dsimp only at hr
  apply TO.cal (wn T) rfl Ki (mE h1) rfl rfl rfl
  repeat exact sd T
  refine wA T (g:=?_)
  cases hr
  refine⟨.inr rfl,_,(ry T),?_⟩
  exact wr [some 2] rfl (.rows .nil rfl rfl)
 rfl
def y63:=an @ag3 <| @xK
theorem pB{v1:Int}{v2:Int}{v3:Int}{v4:Int}(hr:fG v1 v2 v3=some (v4)):Spec (lim Try.prog) 84 [.fptr true [.v (.int .i64 v1),.v (.int .i64 v2),.v (.int .i64 v3)] 0] ⟨[.v (.int .i64 v4)],[]⟩:=by
 unfold fG at hr
 have T:=y63
 apply Spec.fn Try.func84 rfl
 focus (simp[Try.f84]<;>exact rfl)
 focus
  refine wA T (g:=?_)
  obtain⟨v5,h1,hr⟩:=bs hr
  apply TO.cal (wn T) rfl Yp (qP h1) rfl rfl rfl
  repeat exact sd T
  refine wa_ T (g:=?_)
  apply TO.pop1 (wn T) (dM rfl)
  repeat exact sd T
  refine wa_ T (g:=?_)
  obtain⟨⟨v6,v7⟩,h2,hr⟩:=bs hr
  try dsimp only at hr
  apply TO.cal (wn T) rfl gQ (aF h2) rfl rfl rfl
  repeat exact sd T
  refine wa_ T (g:=?_)
  obtain⟨v8,h3,hr⟩:=bs hr
  apply TO.cal (wn T) rfl jT (aC h3) rfl rfl rfl
  repeat exact sd T
  refine wa_ T (g:=?_)
  cases hr
  refine⟨.inr rfl,_,(ry T),?_⟩
  exact wr [] rfl .nil
 rfl
def y64:=an @ag3 <| an @xK <| @xB
theorem pF{v1:Int}{v2:Int}{v3:Int}{v4:Int}(hr:fE v1 v2 v3=some (v4)):Spec (lim Try.prog) 85 [.fptr true [.v (.int .i64 v1),.v (.int .i64 v2),.v (.int .i64 v3)] 0] ⟨[.v (.int .i64 v4)],[]⟩:=by
 unfold fE at hr
 have T:=y64
 apply Spec.fn Try.func85 rfl
 focus (simp[Try.f85]<;>exact rfl)
 focus
  refine wA T (g:=?_)
  by_cases h1:v3=0
  ·rw[if_pos h1] at hr
   cases hr
  ·rw[if_neg h1] at hr
   have T:=an h1 T
   refine wa_ T (g:=?_)
   obtain⟨⟨v5,v6⟩,h2,hr⟩:=bs hr
   try dsimp only at hr
   apply TO.cal (wn T) rfl gQ (aF h2) rfl rfl rfl
   repeat exact sd T
   refine wa_ T (g:=?_)
   obtain⟨v7,h3,hr⟩:=bs hr
   apply TO.cal (wn T) rfl jT (aC h3) rfl rfl rfl
   repeat exact sd T
   refine wa_ T (g:=?_)
   cases hr
   refine⟨.inr rfl,_,(ry T),?_⟩
   exact wr [] rfl .nil
 rfl
def y65:=an @ag36 <| an @cs36 <| an @ok36 <| an @st66 <| @zc66
theorem oU{v1:Int}{v2:Int}{v3:Int}{v4:Int}(hr:fF v1 v2 v3=some (v4)):Spec (lim Try.prog) 86 [.fptr true [.v (.int .i64 v1),.v (.int .i64 v2),.v (.int .i64 v3)] 0] ⟨[.v (.int .i64 v4)],[]⟩:=by
 unfold fF at hr
 have T:=y65
 apply Spec.fn Try.func86 rfl
 focus (simp[Try.f86]<;>exact rfl)
 focus
  refine wA T (g:=?_)
  obtain⟨v5,h1,hr⟩:=bs hr
  apply TO.cal (wn T) rfl Wa (lQ h1) rfl rfl rfl
  repeat exact sd T
  refine wa_ T (g:=?_)
  apply TO.pop1 (wn T) (dM rfl)
  repeat exact sd T
  refine wa_ T (g:=?_)
  obtain⟨⟨v6,v7⟩,h2,hr⟩:=bs hr
  try dsimp only at hr
  apply TO.cal (wn T) rfl gQ (aF h2) rfl rfl rfl
  repeat exact sd T
  refine wa_ T (g:=?_)
  obtain⟨v8,h3,hr⟩:=bs hr
  apply TO.cal (wn T) rfl jT (aC h3) rfl rfl rfl
  repeat exact sd T
  refine wa_ T (g:=?_)
  cases hr
  refine⟨.inr rfl,_,(ry T),?_⟩
  exact wr [] rfl .nil
 rfl
end Go.Rex
namespace Go.Rex
open Go.Proofs
open Go Go.Rex Go.RowKit
set_option maxRecDepth 100000
set_option maxHeartbeats 1000000
def y66:=an @ag61 <| an @cs61 <| an @ok61 <| an @so92 <| an @bF <| an @kW <| an @qX <| an @xZ <| an @Dg <| @Mz
theorem qG{v1:Bool}{v2:Int}{v3:Bool}{v4:Int}{v5:Bool}{v6:Int}{v7:Int}{v8:Int}{v9:Int}{v10:Int}{v11:Int}{v12:Int}{v13:Int}{v14:Int}{v15:Int}{v16:Int}(hr:iD v1 v2 v3 v4 v5 v6 v7 v8 v9 v10 v11 v12 v13 v14 v15=some (v16)):Spec (lim Try.prog) 22 [.list 1 [[.func 61 [] [.fptr true [.v (.bool v1)] 0,.fptr true [.v (.int .i64 v2)] 0]],[.func 61 [] [.fptr true [.v (.bool v3)] 0,.fptr true [.v (.int .i64 v4)] 0]],[.func 61 [] [.fptr true [.v (.bool v5)] 0,.fptr true [.v (.int .i64 v6)] 0]],[.func 84 [] [.fptr true [.v (.int .i64 v7),.v (.int .i64 v8),.v (.int .i64 v9)] 0]],[.func 85 [] [.fptr true [.v (.int .i64 v10),.v (.int .i64 v11),.v (.int .i64 v12)] 0]],[.func 86 [] [.fptr true [.v (.int .i64 v13),.v (.int .i64 v14),.v (.int .i64 v15)] 0]]]] ⟨[.v (.int .i64 v16)],[]⟩:=by
 unfold iD at hr
 have T:=y66
 apply Spec.fn Try.func22 rfl
 focus (simp[Try.f22]<;>exact rfl)
 focus
  refine wc_ T (g:=?_)
  refine TX.unroll ?_
  repeat (first|(with_reducible first|refine mv ?_|refine m12 rfl ?_|refine TO.nil ?_)|((with_reducible first|apply TO.bin|apply TO.ia|apply TO.ld|apply TO.asg|apply TO.mv);(repeat (focus (show _=_;first|exact k1 rfl|exact k2 rfl|(simp only[zz,y66,Nat.reduceAdd,Nat.reduceMul,Nat.reduceLeDiff,Nat.reduceEqDiff,aB,z5,Int.reduceToNat,Int.reduceLE,Int.reduceLT,Int.cast_ofNat_Int,tload,aN,aP,List.getElem?_map]<;>exact rfl)|exact rfl)));(with_reducible apply TO.here))|((with_reducible apply TX.region);(focus (simp only[zl]<;>exact rfl));(focus rfl);(try dsimp only))|((with_reducible apply TX.cond_true);(focus rfl);(focus (first|rfl|(simp only[z1,zn];done))))|((with_reducible apply TX.cond_false);(focus rfl);(focus (first|rfl|(simp only[z1,zn];done))))|fail)
  obtain⟨v17,h1,hr⟩:=bs hr
  apply TO.cal (wn T) rfl jT (aC h1) rfl rfl rfl
  repeat exact sd T
  refine wa_ T (g:=?_)
  rcases ifs hr with⟨h2,hr⟩|⟨h2,hr⟩
  ·have T:=an h2 T
   refine wa_ T (g:=?_)
   cases hr
   refine⟨.inr rfl,_,(ry T),?_⟩
   exact wk_ T [] rfl .nil
  ·have T:=an h2 T
   refine wa_ T (g:=?_)
   refine TX.unroll ?_
   repeat (first|(with_reducible first|refine mv ?_|refine m12 rfl ?_|refine TO.nil ?_)|((with_reducible first|apply TO.bin|apply TO.ia|apply TO.ld|apply TO.asg|apply TO.mv);(repeat (focus (show _=_;first|exact k1 rfl|exact k2 rfl|(simp only[zz,y66,Nat.reduceAdd,Nat.reduceMul,Nat.reduceLeDiff,Nat.reduceEqDiff,aB,z5,Int.reduceToNat,Int.reduceLE,Int.reduceLT,Int.cast_ofNat_Int,tload,aN,aP,List.getElem?_map,h2]<;>exact rfl)|exact rfl)));(with_reducible apply TO.here))|((with_reducible apply TX.region);(focus (simp only[zl]<;>exact rfl));(focus rfl);(try dsimp only))|((with_reducible apply TX.cond_true);(focus rfl);(focus (first|rfl|(simp only[z1,zn,h2];done))))|((with_reducible apply TX.cond_false);(focus rfl);(focus (first|rfl|(simp only[z1,zn,h2];done))))|fail)
   obtain⟨v18,h3,hr⟩:=bs hr
   apply TO.cal (wn T) rfl jT (aC h3) rfl rfl rfl
   repeat exact sd T
   refine wa_ T (g:=?_)
   rcases ifs hr with⟨h4,hr⟩|⟨h4,hr⟩
   ·have T:=an h4 T
    refine wa_ T (g:=?_)
    cases hr
    refine⟨.inr rfl,_,(ry T),?_⟩
    exact wk_ T [] rfl .nil
   ·have T:=an h4 T
    refine wa_ T (g:=?_)
    refine TX.unroll ?_
    repeat (first|(with_reducible first|refine mv ?_|refine m12 rfl ?_|refine TO.nil ?_)|((with_reducible first|apply TO.bin|apply TO.ia|apply TO.ld|apply TO.asg|apply TO.mv);(repeat (focus (show _=_;first|exact k1 rfl|exact k2 rfl|(simp only[zz,y66,Nat.reduceAdd,Nat.reduceMul,Nat.reduceLeDiff,Nat.reduceEqDiff,aB,z5,Int.reduceToNat,Int.reduceLE,Int.reduceLT,Int.cast_ofNat_Int,tload,aN,aP,List.getElem?_map,h2,h4]<;>exact rfl)|exact rfl)));(with_reducible apply TO.here))|((with_reducible apply TX.region);(focus (simp only[zl]<;>exact rfl));(focus rfl);(try dsimp only))|((with_reducible apply TX.cond_true);(focus rfl);(focus (first|rfl|(simp only[z1,zn,h2,h4];done))))|((with_reducible apply TX.cond_false);(focus rfl);(focus (first|rfl|(simp only[z1,zn,h2,h4];done))))|fail)
    obtain⟨v19,h5,hr⟩:=bs hr
    apply TO.cal (wn T) rfl jT (aC h5) rfl rfl rfl
    repeat exact sd T
    refine wa_ T (g:=?_)
    rcases ifs hr with⟨h6,hr⟩|⟨h6,hr⟩
    ·have T:=an h6 T
     refine wa_ T (g:=?_)
     cases hr
     refine⟨.inr rfl,_,(ry T),?_⟩
     exact wk_ T [] rfl .nil
    ·have T:=an h6 T
     refine wa_ T (g:=?_)
     refine TX.unroll ?_
     repeat (first|(with_reducible first|refine mv ?_|refine m12 rfl ?_|refine TO.nil ?_)|((with_reducible first|apply TO.bin|apply TO.ia|apply TO.ld|apply TO.asg|apply TO.mv);(repeat (focus (show _=_;first|exact k1 rfl|exact k2 rfl|(simp only[zz,y66,Nat.reduceAdd,Nat.reduceMul,Nat.reduceLeDiff,Nat.reduceEqDiff,aB,z5,Int.reduceToNat,Int.reduceLE,Int.reduceLT,Int.cast_ofNat_Int,tload,aN,aP,List.getElem?_map,h2,h4,h6]<;>exact rfl)|exact rfl)));(with_reducible apply TO.here))|((with_reducible apply TX.region);(focus (simp only[zl]<;>exact rfl));(focus rfl);(try dsimp only))|((with_reducible apply TX.cond_true);(focus rfl);(focus (first|rfl|(simp only[z1,zn,h2,h4,h6];done))))|((with_reducible apply TX.cond_false);(focus rfl);(focus (first|rfl|(simp only[z1,zn,h2,h4,h6];done))))|fail)
     obtain⟨v20,h7,hr⟩:=bs hr
     apply TO.cal (wn T) rfl aBV (pB h7) rfl rfl rfl
     repeat exact sd T
     refine wa_ T (g:=?_)
     rcases ifs hr with⟨h8,hr⟩|⟨h8,hr⟩
     ·have T:=an h8 T
      refine wa_ T (g:=?_)
      cases hr
      refine⟨.inr rfl,_,(ry T),?_⟩
      exact wk_ T [] rfl .nil
     ·have T:=an h8 T
      refine wa_ T (g:=?_)
      refine TX.unroll ?_
      repeat (first|(with_reducible first|refine mv ?_|refine m12 rfl ?_|refine TO.nil ?_)|((with_reducible first|apply TO.bin|apply TO.ia|apply TO.ld|apply TO.asg|apply TO.mv);(repeat (focus (show _=_;first|exact k1 rfl|exact k2 rfl|(simp only[zz,y66,Nat.reduceAdd,Nat.reduceMul,Nat.reduceLeDiff,Nat.reduceEqDiff,aB,z5,Int.reduceToNat,Int.reduceLE,Int.reduceLT,Int.cast_ofNat_Int,tload,aN,aP,List.getElem?_map,h2,h4,h6,h8]<;>exact rfl)|exact rfl)));(with_reducible apply TO.here))|((with_reducible apply TX.region);(focus (simp only[zl]<;>exact rfl));(focus rfl);(try dsimp only))|((with_reducible apply TX.cond_true);(focus rfl);(focus (first|rfl|(simp only[z1,zn,h2,h4,h6,h8];done))))|((with_reducible apply TX.cond_false);(focus rfl);(focus (first|rfl|(simp only[z1,zn,h2,h4,h6,h8];done))))|fail)
      obtain⟨v21,h9,hr⟩:=bs hr
      apply TO.cal (wn T) rfl aCe (pF h9) rfl rfl rfl
      repeat exact sd T
      refine wa_ T (g:=?_)
      rcases ifs hr with⟨h10,hr⟩|⟨h10,hr⟩
      ·have T:=an h10 T
       refine wa_ T (g:=?_)
       cases hr
       refine⟨.inr rfl,_,(ry T),?_⟩
       exact wk_ T [] rfl .nil
      ·have T:=an h10 T
       refine wa_ T (g:=?_)
       refine TX.unroll ?_
       repeat (first|(with_reducible first|refine mv ?_|refine m12 rfl ?_|refine TO.nil ?_)|((with_reducible first|apply TO.bin|apply TO.ia|apply TO.ld|apply TO.asg|apply TO.mv);(repeat (focus (show _=_;first|exact k1 rfl|exact k2 rfl|(simp only[zz,y66,Nat.reduceAdd,Nat.reduceMul,Nat.reduceLeDiff,Nat.reduceEqDiff,aB,z5,Int.reduceToNat,Int.reduceLE,Int.reduceLT,Int.cast_ofNat_Int,tload,aN,aP,List.getElem?_map,h2,h4,h6,h8,h10]<;>exact rfl)|exact rfl)));(with_reducible apply TO.here))|((with_reducible apply TX.region);(focus (simp only[zl]<;>exact rfl));(focus rfl);(try dsimp only))|((with_reducible apply TX.cond_true);(focus rfl);(focus (first|rfl|(simp only[z1,zn,h2,h4,h6,h8,h10];done))))|((with_reducible apply TX.cond_false);(focus rfl);(focus (first|rfl|(simp only[z1,zn,h2,h4,h6,h8,h10];done))))|fail)
       obtain⟨v22,h11,hr⟩:=bs hr
       apply TO.cal (wn T) rfl aBH (oU h11) rfl rfl rfl
       repeat exact sd T
       refine wa_ T (g:=?_)
       rcases ifs hr with⟨h12,hr⟩|⟨h12,hr⟩
       ·have T:=an h12 T
        refine wa_ T (g:=?_)
        cases hr
        refine⟨.inr rfl,_,(ry T),?_⟩
        exact wk_ T [] rfl .nil
       ·have T:=an h12 T
        refine wa_ T (g:=?_)
        refine TX.unroll ?_
        refine wa_ T (g:=?_)
        cases hr
        refine⟨.inr rfl,_,(ry T),?_⟩
        exact wk_ T [] rfl .nil
 rfl
end Go.Rex
namespace Go.Rex
open Go.Proofs
open Go Go.Rex Go.RowKit
set_option maxRecDepth 100000
set_option maxHeartbeats 200000
def y67:=an @ag3 <| an @cs61 <| an @xK <| an @Eb <| an @xB <| an @so92 <| @zc61
theorem tZ{v1:Int}{v2:Int}{v3:Int}{v4:Int}(hr:gE v1 v2 v3=some (v4)):Spec (lim Try.prog) 68 [.agg [.v (.int .i64 v1),.v (.int .i64 v2),.v (.int .i64 v3)]] ⟨[.v (.int .i64 v4)],[]⟩:=by
 unfold gE at hr
 have T:=y67
 apply Spec.fn Try.func68 rfl
 focus (simp[Try.f68]<;>exact rfl)
 focus
  refine wB T (g:=?_)
  obtain⟨⟨v5,v6⟩,h1,hr⟩:=bs hr
  try dsimp only at hr
  apply TD.cal (wn T) rfl vG (dB h1) rfl rfl rfl
  repeat exact sd T
  refine wA T (g:=?_)
  obtain⟨⟨v7,v8⟩,h2,hr⟩:=bs hr
  try dsimp only at hr
  apply TD.cal (wn T) rfl vG (dB h2) rfl rfl rfl
  repeat exact sd T
  refine wA T (g:=?_)
  obtain⟨⟨v9,v10⟩,h3,hr⟩:=bs hr
  try dsimp only at hr
  apply TD.cal (wn T) rfl vG (dB h3) rfl rfl rfl
  repeat exact sd T
  refine we_ T (g:=?_)
  obtain⟨v11,h4,hr⟩:=bs hr
  apply TD.cal (wn T) rfl nZ (qG h4) rfl rfl rfl
  repeat exact sd T
  refine wa_ T (g:=?_)
  cases hr
  refine⟨.inr rfl,_,(ry T),?_⟩
  exact wr [] rfl .nil
 rfl
def y68:=an @ag36 <| an @cs36 <| an @rL <| @ok36
theorem tG{v1:Int}{v2:Int}{v3:Int}{v4:Int}(hr:kR v1 v2 v3=some (v4)):Spec (lim Try.prog) 41 [.agg [.v (.int .i64 v1),.v (.int .i64 v2),.v (.int .i64 v3)]] ⟨[.v (.int .i64 v4)],[]⟩:=by
 unfold kR at hr
 have T:=y68
 apply Spec.fn Try.func41 rfl
 focus (simp[Try.f41]<;>exact rfl)
 focus
  refine wB T (g:=?_)
  obtain⟨v5,h1,hr⟩:=bs hr
  apply TO.cal (wn T) rfl aCD (tZ h1) rfl rfl rfl
  repeat exact sd T
  refine wa_ T (g:=?_)
  cases hr
  refine⟨.inr rfl,_,(ry T),?_⟩
  exact wr [] rfl .nil
 rfl
def y69:=an @ag3 <| an @ag32 <| an @ag69 <| an @cs69 <| an @xB <| an @ok69 <| @so32
theorem oW{v1:(List (Nat×Nat))}{v2:Int}{v3:(List Int)}{v4:Int}{v5:Int}{v6:Int}{v7:Int}(hr:dK v1 v2 v3 v4 v5 v6=some (v7)):Spec (lim Try.prog) 42 [.fptr true [.list 1 (v1.map e_c)] 0,.fptr true [.v (.int .i64 v2),.list 1 (v3.map e_i)] 0,.fptr true [.v (.int .i64 v4),.v (.int .i64 v5),.v (.int .i64 v6)] 0] ⟨[.v (.int .i64 v7)],[]⟩:=by
 unfold dK at hr
 have T:=an y69 <| an @e_c.eq_1 <| @e_i.eq_1
 apply Spec.fn Try.func42 rfl
 focus (simp[Try.f42]<;>exact rfl)
 focus
  refine wC T (g:=?_)
  obtain⟨v8,h1,hr⟩:=bs hr
  apply TD.cal (wn T) rfl vM (aL h1) rfl rfl rfl
  repeat exact sd T
  refine wa_ T (g:=?_)
  rcases ifs hr with⟨h2,hr⟩|⟨h2,hr⟩
  ·have T:=an h2 T
   refine wa_ T (g:=?_)
   obtain⟨⟨v9,v10⟩,h3,hr⟩:=bs hr
   try dsimp only at hr
   apply TD.cal (wn T) rfl gQ (aF h3) rfl rfl rfl
   repeat exact sd T
   refine wa_ T (g:=?_)
   obtain⟨v11,h4,hr⟩:=bs hr
   apply TD.cal (wn T) rfl jT (aC h4) rfl rfl rfl
   repeat exact sd T
   refine wa_ T (g:=?_)
   cases hr
   refine⟨.inr rfl,_,(ry T),?_⟩
   exact wk_ T [] rfl .nil
  ·have T:=an h2 T
   refine wA T (g:=?_)
   obtain⟨v12,h5,hr⟩:=bs hr
   apply TD.cal (wn T) rfl vM (aL h5) rfl rfl rfl
   repeat exact sd T
   refine wa_ T (g:=?_)
   obtain⟨⟨v13,v14⟩,h6,hr⟩:=bs hr
   try dsimp only at hr
   apply TD.cal (wn T) rfl gQ (aF h6) rfl rfl rfl
   repeat exact sd T
   refine wa_ T (g:=?_)
   obtain⟨v15,h7,hr⟩:=bs hr
   apply TD.cal (wn T) rfl jT (aC h7) rfl rfl rfl
   repeat exact sd T
   refine wa_ T (g:=?_)
   cases hr
   refine⟨.inr rfl,_,(ry T),?_⟩
   exact wk_ T [] rfl .nil
 rfl
end Go.Rex
namespace Go.Rex
open Go.Proofs
open Go Go.Rex Go.RowKit
set_option maxRecDepth 100000
set_option maxHeartbeats 1000000
def y70:=an @ag61 <| an @cs61 <| an @ok61 <| an @so92 <| an @bF <| an @kW <| an @qX <| an @xZ <| an @Dg <| @Mz
theorem qQ{v1:(List (Nat×Nat))}{v2:Int}{v3:(List Int)}{v4:Int}{v5:Int}{v6:(List Int)}{v7:Int}{v8:Int}{v9:Int}{v10:Int}{v11:(List Int)}{v12:(List (Nat×Nat))}{v13:Int}{v14:(List Int)}{v15:Int}{v16:Int}{v17:Int}{v18:Int}(hr:gZ v1 v2 v3 v4 v5 v6 v7 v8 v9 v10 v11 v12 v13 v14 v15 v16 v17=some (v18)):Spec (lim Try.prog) 22 [.list 1 [[.func 54 [] [.fptr true [.list 1 (v1.map e_c)] 0]],[.func 28 [.agg [.v (.int .i64 v2),.list 1 (v3.map e_i)]] []],[.func 59 [] [.fptr true [.v (.int .i64 v4)] 0,.fptr true [.v (.int .i64 v5),.list 1 (v6.map e_i)] 0]],[.func 41 [.agg [.v (.int .i64 v7),.v (.int .i64 v8),.v (.int .i64 v9)]] []],[.func 30 [.agg [.v (.int .i64 v10),.list 1 (v11.map e_i)]] []],[.func 42 [] [.fptr true [.list 1 (v12.map e_c)] 0,.fptr true [.v (.int .i64 v13),.list 1 (v14.map e_i)] 0,.fptr true [.v (.int .i64 v15),.v (.int .i64 v16),.v (.int .i64 v17)] 0]]]] ⟨[.v (.int .i64 v18)],[]⟩:=by
 unfold gZ at hr
 have T:=an y70 <| an @e_c.eq_1 <| @e_i.eq_1
 apply Spec.fn Try.func22 rfl
 focus (simp[Try.f22]<;>exact rfl)
 focus
  refine wc_ T (g:=?_)
  refine TX.unroll ?_
  repeat (first|(with_reducible first|refine mv ?_|refine m12 rfl ?_|refine TO.nil ?_)|((with_reducible first|apply TO.bin|apply TO.ia|apply TO.ld|apply TO.asg|apply TO.mv);(repeat (focus (show _=_;first|exact k1 rfl|exact k2 rfl|(simp only[zz,y70,e_c,e_i,Nat.reduceAdd,Nat.reduceMul,Nat.reduceLeDiff,Nat.reduceEqDiff,aB,z5,Int.reduceToNat,Int.reduceLE,Int.reduceLT,Int.cast_ofNat_Int,tload,aN,aP,List.getElem?_map]<;>exact rfl)|exact rfl)));(with_reducible apply TO.here))|((with_reducible apply TX.region);(focus (simp only[zl]<;>exact rfl));(focus rfl);(try dsimp only))|((with_reducible apply TX.cond_true);(focus rfl);(focus (first|rfl|(simp only[z1,zn];done))))|((with_reducible apply TX.cond_false);(focus rfl);(focus (first|rfl|(simp only[z1,zn];done))))|fail)
  obtain⟨v19,h1,hr⟩:=bs hr
  apply TO.cal (wn T) rfl Qk (iK h1) rfl rfl rfl
  repeat exact sd T
  refine wa_ T (g:=?_)
  rcases ifs hr with⟨h2,hr⟩|⟨h2,hr⟩
  ·have T:=an h2 T
   refine wa_ T (g:=?_)
   cases hr
   refine⟨.inr rfl,_,(ry T),?_⟩
   exact wk_ T [] rfl .nil
  ·have T:=an h2 T
   refine wa_ T (g:=?_)
   refine TX.unroll ?_
   repeat (first|(with_reducible first|refine mv ?_|refine m12 rfl ?_|refine TO.nil ?_)|((with_reducible first|apply TO.bin|apply TO.ia|apply TO.ld|apply TO.asg|apply TO.mv);(repeat (focus (show _=_;first|exact k1 rfl|exact k2 rfl|(simp only[zz,y70,e_c,e_i,Nat.reduceAdd,Nat.reduceMul,Nat.reduceLeDiff,Nat.reduceEqDiff,aB,z5,Int.reduceToNat,Int.reduceLE,Int.reduceLT,Int.cast_ofNat_Int,tload,aN,aP,List.getElem?_map,h2]<;>exact rfl)|exact rfl)));(with_reducible apply TO.here))|((with_reducible apply TX.region);(focus (simp only[zl]<;>exact rfl));(focus rfl);(try dsimp only))|((with_reducible apply TX.cond_true);(focus rfl);(focus (first|rfl|(simp only[z1,zn,h2];done))))|((with_reducible apply TX.cond_false);(focus rfl);(focus (first|rfl|(simp only[z1,zn,h2];done))))|fail)
   obtain⟨v20,h3,hr⟩:=bs hr
   apply TO.cal (wn T) rfl Rn (gP h3) rfl rfl rfl
   repeat exact sd T
   refine wa_ T (g:=?_)
   rcases ifs hr with⟨h4,hr⟩|⟨h4,hr⟩
   ·have T:=an h4 T
    refine wa_ T (g:=?_)
    cases hr
    refine⟨.inr rfl,_,(ry T),?_⟩
    exact wk_ T [] rfl .nil
   ·have T:=an h4 T
    refine wa_ T (g:=?_)
    refine TX.unroll ?_
    repeat (first|(with_reducible first|refine mv ?_|refine m12 rfl ?_|refine TO.nil ?_)|((with_reducible first|apply TO.bin|apply TO.ia|apply TO.ld|apply TO.asg|apply TO.mv);(repeat (focus (show _=_;first|exact k1 rfl|exact k2 rfl|(simp only[zz,y70,e_c,e_i,Nat.reduceAdd,Nat.reduceMul,Nat.reduceLeDiff,Nat.reduceEqDiff,aB,z5,Int.reduceToNat,Int.reduceLE,Int.reduceLT,Int.cast_ofNat_Int,tload,aN,aP,List.getElem?_map,h2,h4]<;>exact rfl)|exact rfl)));(with_reducible apply TO.here))|((with_reducible apply TX.region);(focus (simp only[zl]<;>exact rfl));(focus rfl);(try dsimp only))|((with_reducible apply TX.cond_true);(focus rfl);(focus (first|rfl|(simp only[z1,zn,h2,h4];done))))|((with_reducible apply TX.cond_false);(focus rfl);(focus (first|rfl|(simp only[z1,zn,h2,h4];done))))|fail)
    obtain⟨v21,h5,hr⟩:=bs hr
    apply TO.cal (wn T) rfl Pf (cV h5) rfl rfl rfl
    repeat exact sd T
    refine wa_ T (g:=?_)
    rcases ifs hr with⟨h6,hr⟩|⟨h6,hr⟩
    ·have T:=an h6 T
     refine wa_ T (g:=?_)
     cases hr
     refine⟨.inr rfl,_,(ry T),?_⟩
     exact wk_ T [] rfl .nil
    ·have T:=an h6 T
     refine wa_ T (g:=?_)
     refine TX.unroll ?_
     repeat (first|(with_reducible first|refine mv ?_|refine m12 rfl ?_|refine TO.nil ?_)|((with_reducible first|apply TO.bin|apply TO.ia|apply TO.ld|apply TO.asg|apply TO.mv);(repeat (focus (show _=_;first|exact k1 rfl|exact k2 rfl|(simp only[zz,y70,e_c,e_i,Nat.reduceAdd,Nat.reduceMul,Nat.reduceLeDiff,Nat.reduceEqDiff,aB,z5,Int.reduceToNat,Int.reduceLE,Int.reduceLT,Int.cast_ofNat_Int,tload,aN,aP,List.getElem?_map,h2,h4,h6]<;>exact rfl)|exact rfl)));(with_reducible apply TO.here))|((with_reducible apply TX.region);(focus (simp only[zl]<;>exact rfl));(focus rfl);(try dsimp only))|((with_reducible apply TX.cond_true);(focus rfl);(focus (first|rfl|(simp only[z1,zn,h2,h4,h6];done))))|((with_reducible apply TX.cond_false);(focus rfl);(focus (first|rfl|(simp only[z1,zn,h2,h4,h6];done))))|fail)
     obtain⟨v22,h7,hr⟩:=bs hr
     apply TO.cal (wn T) rfl aCr (tG h7) rfl rfl rfl
     repeat exact sd T
     refine wa_ T (g:=?_)
     rcases ifs hr with⟨h8,hr⟩|⟨h8,hr⟩
     ·have T:=an h8 T
      refine wa_ T (g:=?_)
      cases hr
      refine⟨.inr rfl,_,(ry T),?_⟩
      exact wk_ T [] rfl .nil
     ·have T:=an h8 T
      refine wa_ T (g:=?_)
      refine TX.unroll ?_
      repeat (first|(with_reducible first|refine mv ?_|refine m12 rfl ?_|refine TO.nil ?_)|((with_reducible first|apply TO.bin|apply TO.ia|apply TO.ld|apply TO.asg|apply TO.mv);(repeat (focus (show _=_;first|exact k1 rfl|exact k2 rfl|(simp only[zz,y70,e_c,e_i,Nat.reduceAdd,Nat.reduceMul,Nat.reduceLeDiff,Nat.reduceEqDiff,aB,z5,Int.reduceToNat,Int.reduceLE,Int.reduceLT,Int.cast_ofNat_Int,tload,aN,aP,List.getElem?_map,h2,h4,h6,h8]<;>exact rfl)|exact rfl)));(with_reducible apply TO.here))|((with_reducible apply TX.region);(focus (simp only[zl]<;>exact rfl));(focus rfl);(try dsimp only))|((with_reducible apply TX.cond_true);(focus rfl);(focus (first|rfl|(simp only[z1,zn,h2,h4,h6,h8];done))))|((with_reducible apply TX.cond_false);(focus rfl);(focus (first|rfl|(simp only[z1,zn,h2,h4,h6,h8];done))))|fail)
      obtain⟨v23,h9,hr⟩:=bs hr
      apply TO.cal (wn T) rfl aAm (kE h9) rfl rfl rfl
      repeat exact sd T
      refine wa_ T (g:=?_)
      rcases ifs hr with⟨h10,hr⟩|⟨h10,hr⟩
      ·have T:=an h10 T
       refine wa_ T (g:=?_)
       cases hr
       refine⟨.inr rfl,_,(ry T),?_⟩
       exact wk_ T [] rfl .nil
      ·have T:=an h10 T
       refine wa_ T (g:=?_)
       refine TX.unroll ?_
       repeat (first|(with_reducible first|refine mv ?_|refine m12 rfl ?_|refine TO.nil ?_)|((with_reducible first|apply TO.bin|apply TO.ia|apply TO.ld|apply TO.asg|apply TO.mv);(repeat (focus (show _=_;first|exact k1 rfl|exact k2 rfl|(simp only[zz,y70,e_c,e_i,Nat.reduceAdd,Nat.reduceMul,Nat.reduceLeDiff,Nat.reduceEqDiff,aB,z5,Int.reduceToNat,Int.reduceLE,Int.reduceLT,Int.cast_ofNat_Int,tload,aN,aP,List.getElem?_map,h2,h4,h6,h8,h10]<;>exact rfl)|exact rfl)));(with_reducible apply TO.here))|((with_reducible apply TX.region);(focus (simp only[zl]<;>exact rfl));(focus rfl);(try dsimp only))|((with_reducible apply TX.cond_true);(focus rfl);(focus (first|rfl|(simp only[z1,zn,h2,h4,h6,h8,h10];done))))|((with_reducible apply TX.cond_false);(focus rfl);(focus (first|rfl|(simp only[z1,zn,h2,h4,h6,h8,h10];done))))|fail)
       obtain⟨v24,h11,hr⟩:=bs hr
       apply TO.cal (wn T) rfl aBz (oW h11) rfl rfl rfl
       repeat exact sd T
       refine wa_ T (g:=?_)
       rcases ifs hr with⟨h12,hr⟩|⟨h12,hr⟩
       ·have T:=an h12 T
        refine wa_ T (g:=?_)
        cases hr
        refine⟨.inr rfl,_,(ry T),?_⟩
        exact wk_ T [] rfl .nil
       ·have T:=an h12 T
        refine wa_ T (g:=?_)
        refine TX.unroll ?_
        refine wa_ T (g:=?_)
        cases hr
        refine⟨.inr rfl,_,(ry T),?_⟩
        exact wk_ T [] rfl .nil
 rfl
end Go.Rex
namespace Go.Rex
open Go.Proofs
open Go Go.Rex Go.RowKit
set_option maxRecDepth 100000
set_option maxHeartbeats 200000
def y71:=an @ag3 <| an @ag66 <| an @by3 <| an @cs3 <| an @cs66 <| an @Eb <| an @xB <| an @rL <| an @ni23 <| an @ok3 <| an @ok66 <| an @so23 <| @zc3
theorem sK{v1:Int}{v2:Int}{v3:Int}{v4:(List Int)}(hr:gK v1 v2 v3=some (v4)):Spec (lim Try.prog) 69 [.agg [.v (.int .i64 v1),.v (.int .i64 v2),.v (.int .i64 v3)]] ⟨[.lsl 0 0 v4.length],[.rows 1 (v4.map e_i)]⟩:=by
 unfold gK at hr
 have T:=an y71 <| @e_i.eq_1
 apply Spec.fn Try.func69 rfl
 focus (simp[Try.f69]<;>exact rfl)
 focus
  refine wb_ T (g:=?_)
  apply TO.bl e_i ([1]:List Int) (wn T) rfl (by simp only[zz,y71,e_i,Nat.reduceAdd,Nat.reduceMul,Nat.reduceLeDiff,Nat.reduceEqDiff,tslice,tparts];exact rfl) rfl rfl
  repeat exact sd T
  refine wa_ T (g:=?_)
  obtain⟨v13,h9,hr⟩:=bs hr
  refine TX.loopE (step:=dE v1 v2 v3) (x:=([1]:List Int)) h9 (fun v5=>⟨.U::.fptr true [.v (.int .i64 v1),.v (.int .i64 v2),.v (.int .i64 v3)] 0::.U::.lsl 0 0 v5.length::.U::.U::.U::.U::.U::.U::.U::.U::.U::.U::.U::.U::.U::.U::.U::.U::.U::.U::.U::.U::.U::.U::[],[.rows 1 (v5.map e_i)]⟩) (fun v9=>(.exit 0,⟨.U::.U::.U::.lsl 0 0 v9.length::.U::.U::.U::.U::.U::.U::.U::.U::.U::.U::.U::.U::.U::.U::.U::.U::.U::.U::.U::.U::.U::.U::[],[.rows 1 (v9.map e_i)]⟩)) ?_ ?_ ?_ ?_
  ·rintro v5 v0 hr
   dsimp only[dE] at hr
   try dsimp only
   refine wC T (g:=?_)
   rcases ifs hr with⟨h5,hr⟩|⟨h5,hr⟩
   ·have T:=an h5 T
    refine wC T (g:=?_)
    obtain⟨v10,h6,hr⟩:=bs hr
    have h6m:=dZ (f:=e_i) h6
    have h6l:=fQ h6
    try simp only[List.length_set] at h6l
    have h6a:=fS h6
    have T:=an h6m T
    have T:=an h6l T
    have T:=an h6a T
    refine wA T (g:=?_)
    obtain⟨v11,h7,hr⟩:=bs hr
    apply TD.cal (wn T) rfl uQ (aY h7) rfl rfl rfl
    repeat exact sd T
    refine wa_ T (g:=?_)
    apply TD.bm e_i ([v11]:List Int) (wn T) rfl (by simp only[zz,y71,e_i,Nat.reduceAdd,Nat.reduceMul,Nat.reduceLeDiff,Nat.reduceEqDiff,tslice,tparts,h5,h6m,h6l,h6a];exact rfl) rfl
    repeat exact sd T
    refine wa_ T (g:=?_)
    obtain⟨v12,h8,hr⟩:=bs hr
    apply TD.ap (f:=e_i) (xs:=v5) (ys:=([v11]:List Int)) (wn T) rfl rfl (by first|rfl|simp only[List.length_set]) rfl rfl so23 ni23 zc3 rfl (by rw[by3];exact h8) (fun _=>⟨rfl,rfl,rfl⟩) rfl
    repeat exact sd T
    refine wa_ T (g:=?_)
    cases hr
    refine⟨rfl,?_⟩
    exact wk_ T [some 0] rfl (.rows .nil rfl rfl)
   ·have T:=an h5 T
    refine wa_ T (g:=?_)
    cases hr
    refine⟨rfl,?_⟩
    exact wk_ T [some 0] rfl (.rows .nil rfl rfl)
  ·intro e h;cases h
  ·try dsimp only
   refine wa_ T (g:=?_)
   cases hr
   refine⟨.inr rfl,_,(ry T),?_⟩
   exact wr [some 0] rfl (.rows .nil rfl rfl)
  ·try dsimp only
   exact wr [some 0] rfl (.rows .nil rfl rfl)
 rfl
end Go.Rex
namespace Go.Rex
open Go.Proofs
open Go Go.Rex Go.RowKit
set_option maxRecDepth 100000
set_option maxHeartbeats 1000000
def y72:=an @ag3 <| an @ag66 <| an @by3 <| an @cs3 <| an @cs66 <| an @xK <| an @xB <| an @rL <| an @ok3 <| an @ok66 <| an @so23 <| an @zc3 <| an @bF <| @aAj
theorem gV{v1:Int}{v2:Int}{v3:Int}{v4:(List Int)}{v5:(List Int)}(hr:bE v1 v2 v3 v4=some (v5)):Spec (lim Try.prog) 43 [.agg [.v (.int .i64 v1),.v (.int .i64 v2),.v (.int .i64 v3)],.list 1 (v4.map e_i)] ⟨[.lsl 0 0 v5.length],[.rows 1 (v5.map e_i)]⟩:=by
 unfold bE at hr
 have T:=an y72 <| @e_i.eq_1
 apply Spec.fn Try.func43 rfl
 focus (simp[Try.f43]<;>exact rfl)
 focus
  refine wB T (g:=?_)
  obtain⟨v6,h1,hr⟩:=bs hr
  apply TO.cal (wn T) rfl aBr (sK h1) rfl rfl rfl
  repeat exact sd T
  refine wA T (g:=?_)
  obtain⟨v7,h2,hr⟩:=bs hr
  apply TO.mk e_i h2 (wn T) rfl rfl so23 zc3 by3 rfl rfl rfl
  repeat exact sd T
  refine wc_ T (g:=?_)
  obtain⟨v41,h39,hr⟩:=bs hr
  refine TX.loopE (step:=bX v1 v2 v3 v4 v6 v7) (x:=(v7,0)) h39 (fun (v8,v9)=>⟨.U::.list 1 (v4.map e_i)::.fptr true [.v (.int .i64 v1),.v (.int .i64 v2),.v (.int .i64 v3)] 0::.U::.U::.lsl 0 0 v6.length::.lsl 1 0 v8.length::.U::.U::.U::.U::.U::.U::.U::.U::.U::.U::.v (.int .i64 (v7.length:Int))::.v (.int .i64 v9)::.U::.U::.U::.U::.U::.U::.U::.U::.U::.U::.U::.U::.U::.U::.U::.U::.U::.U::.U::.U::.U::.U::.U::.U::.U::.U::.U::.U::.U::.U::.U::.U::.U::.U::.U::.U::.U::.U::.U::.U::.U::.U::.U::.U::[],[.rows 1 (v6.map e_i),.rows 1 (v8.map e_i)]⟩) (fun v25=>(.exit 0,⟨.U::.U::.U::.U::.U::.U::.lsl 0 0 v25.length::.U::.U::.U::.U::.U::.U::.U::.U::.U::.U::.U::.U::.U::.U::.U::.U::.U::.U::.U::.U::.U::.U::.U::.U::.U::.U::.U::.U::.U::.U::.U::.U::.U::.U::.U::.U::.U::.U::.U::.U::.U::.U::.U::.U::.U::.U::.U::.U::.U::.U::.U::.U::.U::.U::.U::.U::[],[.rows 1 (v25.map e_i)]⟩)) ?_ ?_ ?_ ?_
  ·rintro⟨v8,v9⟩ v0 hr
   dsimp only[bX] at hr
   try dsimp only
   refine wa_ T (g:=?_)
   rcases ifs hr with⟨h21,hr⟩|⟨h21,hr⟩
   ·have T:=an h21 T
    refine wc_ T (g:=?_)
    obtain⟨v39,h36,hr⟩:=bs hr
    refine TX.loopE (step:=bJ v1 v2 v3 v4 v6 v9) (x:=(v8,0)) h36 (fun (v26,v27)=>⟨.U::.list 1 (v4.map e_i)::.fptr true [.v (.int .i64 v1),.v (.int .i64 v2),.v (.int .i64 v3)] 0::.U::.U::.lsl 0 0 v6.length::.lsl 1 0 v26.length::.v (.int .i64 v9)::.U::.U::.U::.U::.U::.U::.U::.U::.U::.v (.int .i64 (v7.length:Int))::.v (.int .i64 v9)::.U::.U::.list 1 (v4.map e_i)::.v (.int .i64 (v4.length:Int))::.v (.int .i64 v27)::.U::.U::.U::.U::.U::.U::.U::.U::.U::.U::.U::.U::.U::.U::.U::.U::.U::.U::.U::.U::.U::.U::.U::.U::.U::.U::.U::.U::.U::.U::.U::.U::.U::.U::.U::.U::.U::.U::.U::[],[.rows 1 (v6.map e_i),.rows 1 (v26.map e_i)]⟩) (fun v33=>(.exit 2,⟨.U::.list 1 (v4.map e_i)::.fptr true [.v (.int .i64 v1),.v (.int .i64 v2),.v (.int .i64 v3)] 0::.U::.U::.lsl 0 0 v6.length::.lsl 1 0 v33.length::.v (.int .i64 v9)::.U::.U::.U::.U::.U::.U::.U::.U::.U::.v (.int .i64 (v7.length:Int))::.v (.int .i64 v9)::.U::.U::.U::.U::.U::.U::.U::.U::.U::.U::.U::.U::.U::.U::.U::.U::.U::.U::.U::.U::.U::.U::.U::.U::.U::.U::.U::.U::.U::.U::.U::.U::.U::.U::.U::.U::.U::.U::.U::.U::.U::.U::.U::.U::[],[.rows 1 (v6.map e_i),.rows 1 (v33.map e_i)]⟩)) ?_ ?_ ?_ ?_
    ·rintro⟨v26,v27⟩ v0 hr
     dsimp only[bJ] at hr
     try dsimp only
     refine wa_ T (g:=?_)
     rcases ifs hr with⟨h29,hr⟩|⟨h29,hr⟩
     ·have T:=an h29 T
      refine wa_ T (g:=?_)
      obtain⟨v34,h30,hr⟩:=bs hr
      have T:=an (gx e_i h30) T
      refine wA T (g:=?_)
      obtain⟨v35,h31,hr⟩:=bs hr
      have h31m:=dZ (f:=e_i) h31
      have h31l:=fQ h31
      try simp only[List.length_set] at h31l
      have h31a:=fS h31
      have T:=an h31m T
      have T:=an h31l T
      have T:=an h31a T
      refine wA T (g:=?_)
      obtain⟨v36,h32,hr⟩:=bs hr
      apply TD.cal (wn T) rfl Qf (nC h32) rfl rfl rfl
      repeat exact sd T
      refine wA T (g:=?_)
      by_cases h33:v3=0
      ·rw[if_pos h33] at hr
       cases hr
      ·rw[if_neg h33] at hr
       have T:=an h33 T
       refine wa_ T (g:=?_)
       obtain⟨v37,h34,hr⟩:=bs hr
       have T:=an (gx e_i h34) T
       refine wA T (g:=?_)
       obtain⟨v38,h35,hr⟩:=bs hr
       apply TD.cal (wn T) rfl uQ (aY h35) rfl rfl rfl
       repeat exact sd T
       refine wa_ T (g:=?_)
       apply TD.sr e_i v26 v35 (IntKind.i64.wrap (v35+v38)) h31a (wn T) rfl rfl rfl rfl rfl ok3 (by rw[cs3];rfl) rfl rfl rfl rfl rfl
       repeat exact sd T
       refine wa_ T (g:=?_)
       cases hr
       refine⟨rfl,?_⟩
       exact wk_ T [some 0,some 1] rfl (.rows (.rows .nil rfl rfl) rfl rfl)
     ·have T:=an h29 T
      refine wa_ T (g:=?_)
      cases hr
      refine⟨rfl,?_⟩
      exact wk_ T [some 0,some 1] rfl (.rows (.rows .nil rfl rfl) rfl rfl)
    ·intro e h;cases h
    ·try dsimp only
     refine wa_ T (g:=?_)
     obtain⟨v40,h37,hr⟩:=bs hr
     have h37m:=dZ (f:=e_i) h37
     have h37l:=fQ h37
     try simp only[List.length_set] at h37l
     have h37a:=fS h37
     have T:=an h37m T
     have T:=an h37l T
     have T:=an h37a T
     refine wA T (g:=?_)
     by_cases h38:v1=0
     ·rw[if_pos h38] at hr
      cases hr
     ·rw[if_neg h38] at hr
      have T:=an h38 T
      refine wa_ T (g:=?_)
      apply TD.sr e_i v39 v40 (v40.tmod v1) h37a (wn T) rfl rfl rfl rfl rfl ok3 (by rw[cs3];rfl) rfl rfl rfl rfl rfl
      repeat exact sd T
      refine wa_ T (g:=?_)
      cases hr
      refine⟨rfl,?_⟩
      exact wk_ T [some 0,some 1] rfl (.rows (.rows .nil rfl rfl) rfl rfl)
    ·try dsimp only
     exact wk_ T [some 0,some 1] rfl (.rows (.rows .nil rfl rfl) rfl rfl)
   ·have T:=an h21 T
    refine wa_ T (g:=?_)
    cases hr
    refine⟨rfl,?_⟩
    exact wk_ T [some 1] rfl (.rows .nil rfl rfl)
  ·intro e h;cases h
  ·try dsimp only
   refine wa_ T (g:=?_)
   cases hr
   refine⟨.inr rfl,_,(ry T),?_⟩
   exact wr [some 0] rfl (.rows .nil rfl rfl)
  ·try dsimp only
   exact wr [some 0,some 1] rfl (.rows (.rows .nil rfl rfl) rfl rfl)
 rfl
end Go.Rex
namespace Go.Rex
open Go.Proofs
open Go Go.Rex Go.RowKit
set_option maxRecDepth 100000
set_option maxHeartbeats 200000
def y73:=an @ag3 <| an @ag88 <| an @by3 <| an @cs3 <| an @cs88 <| an @zT <| an @Ao <| an @ni23 <| an @ok88 <| an @so23 <| an @so76 <| an @zc3 <| an @zc88 <| @bF
theorem Ah{v1:(List (Int×Int))}{v2:(List Int)}{v3:(List Int)}(hr:mT v1=some (v2,v3)):Spec (lim Try.prog) 45 [.list 2 (v1.map e_ii)] ⟨[.tuple [.lsl 0 0 v2.length,.lsl 1 0 v3.length]],[.rows 1 (v2.map e_i),.rows 1 (v3.map e_i)]⟩:=by
 unfold mT at hr
 have T:=an y73 <| an @e_i.eq_1 <| @e_ii.eq_1
 apply Spec.fn Try.func45 rfl
 focus (simp[Try.f45]<;>exact rfl)
 focus
  refine wc_ T (g:=?_)
  apply TX.vt (α:=Int) e_i 2 1 rfl
  repeat exact sd T
  with_reducible apply TX.here
  refine wa_ T (g:=?_)
  apply TX.vt (α:=Int) e_i 3 1 rfl
  repeat exact sd T
  with_reducible apply TX.here
  refine wa_ T (g:=?_)
  obtain⟨⟨v17,v18⟩,h9,hr⟩:=bs hr
  try dsimp only at hr
  refine TX.loopE (step:=gM v1) (x:=(([]:List Int),([]:List Int),0)) h9 (fun (v4,v5,v6)=>⟨.U::.U::.lsl 0 0 v4.length::.lsl 1 0 v5.length::.U::.U::.list 2 (v1.map e_ii)::.v (.int .i64 (v1.length:Int))::.v (.int .i64 v6)::.U::.U::.U::.U::.U::.U::.U::.U::.U::.U::.U::.U::.U::.U::.U::.U::[],[.rows 1 (v4.map e_i),.rows 1 (v5.map e_i)]⟩) (fun (v11,v12)=>(.exit 0,⟨.U::.U::.lsl 0 0 v11.length::.lsl 1 0 v12.length::.U::.U::.U::.U::.U::.U::.U::.U::.U::.U::.U::.U::.U::.U::.U::.U::.U::.U::.U::.U::.U::[],[.rows 1 (v11.map e_i),.rows 1 (v12.map e_i)]⟩)) ?_ ?_ ?_ ?_
  ·rintro⟨v4,v5,v6⟩ v0 hr
   dsimp only[gM] at hr
   try dsimp only
   refine wa_ T (g:=?_)
   rcases ifs hr with⟨h5,hr⟩|⟨h5,hr⟩
   ·have T:=an h5 T
    refine wa_ T (g:=?_)
    obtain⟨⟨v13,v14⟩,h6,hr⟩:=bs hr
    try dsimp only at hr
    have h6m:=dZ (f:=e_ii) h6
    have h6l:=fQ h6
    try simp only[List.length_set] at h6l
    have h6a:=fS h6
    have T:=an h6m T
    have T:=an h6l T
    have T:=an h6a T
    refine wA T (g:=?_)
    apply TO.bm e_i ([v13]:List Int) (wn T) rfl (by simp only[zz,y73,e_i,e_ii,Nat.reduceAdd,Nat.reduceMul,Nat.reduceLeDiff,Nat.reduceEqDiff,tslice,tparts,h5,h6m,h6l,h6a];exact rfl) rfl
    repeat exact sd T
    refine wa_ T (g:=?_)
    obtain⟨v15,h7,hr⟩:=bs hr
    apply TO.ap (f:=e_i) (xs:=v4) (ys:=([v13]:List Int)) (wn T) rfl rfl (by first|rfl|simp only[List.length_set]) rfl rfl so23 ni23 zc3 rfl (by rw[by3];exact h7) (fun _=>⟨rfl,rfl,rfl⟩)
    repeat exact sd T
    refine wA T (g:=?_)
    apply TO.bm e_i ([v14]:List Int) (wn T) rfl (by simp only[zz,y73,e_i,e_ii,Nat.reduceAdd,Nat.reduceMul,Nat.reduceLeDiff,Nat.reduceEqDiff,tslice,tparts,h5,h6m,h6l,h6a];exact rfl) rfl
    repeat exact sd T
    refine wa_ T (g:=?_)
    obtain⟨v16,h8,hr⟩:=bs hr
    apply TO.ap (f:=e_i) (xs:=v5) (ys:=([v14]:List Int)) (wn T) rfl rfl (by first|rfl|simp only[List.length_set]) rfl rfl so23 ni23 zc3 rfl (by rw[by3];exact h8) (fun _=>⟨rfl,rfl,rfl⟩)
    repeat exact sd T
    refine wa_ T (g:=?_)
    cases hr
    refine⟨rfl,?_⟩
    exact wk_ T [some 0,some 1] rfl (.rows (.rows .nil rfl rfl) rfl rfl)
   ·have T:=an h5 T
    refine wa_ T (g:=?_)
    cases hr
    refine⟨rfl,?_⟩
    exact wk_ T [some 0,some 1] rfl (.rows (.rows .nil rfl rfl) rfl rfl)
  ·intro e h;cases h
  ·try dsimp only
   refine wa_ T (g:=?_)
   cases hr
   refine⟨.inr rfl,_,(ry T),?_⟩
   exact wr [some 0,some 1] rfl (.rows (.rows .nil rfl rfl) rfl rfl)
  ·try dsimp only
   exact wr [some 0,some 1] rfl (.rows (.rows .nil rfl rfl) rfl rfl)
 rfl
def y74:=an @ag3 <| an @ag66 <| an @cs66 <| an @xK <| an @rL <| @ok66
theorem jB{v1:Int}{v2:Int}{v3:Int}{v4:Int}{v5:Int}(hr:cX v1 v2 v3 v4=some (v5)):Spec (lim Try.prog) 88 [.agg [.v (.int .i64 v1),.v (.int .i64 v2),.v (.int .i64 v3)],.v (.int .i64 v4)] ⟨[.v (.int .i64 v5)],[]⟩:=by
 unfold cX at hr
 have T:=y74
 apply Spec.fn Try.func88 rfl
 focus (simp[Try.f88]<;>exact rfl)
 focus
  refine wB T (g:=?_)
  obtain⟨v6,h1,hr⟩:=bs hr
  apply TO.cal (wn T) rfl Wy (nQ h1) rfl rfl rfl
  repeat exact sd T
  refine wa_ T (g:=?_)
  cases hr
  refine⟨.inr rfl,_,(ry T),?_⟩
  exact wr [] rfl .nil
 rfl
def y75:=an @ag3 <| an @ag66 <| an @by3 <| an @cs3 <| an @cs66 <| an @ni23 <| an @ok3 <| an @ok66 <| an @so23 <| an @zc3 <| @bF
theorem qZ{v1:Int}{v2:Int}{v3:Int}{v4:(List Int)}{v5:(List Int)}{v6:(List Int)}(hr:fJ v1 v2 v3 v4 v5=some (v6)):Spec (lim Try.prog) 73 [.agg [.v (.int .i64 v1),.v (.int .i64 v2),.v (.int .i64 v3)],.list 1 (v4.map e_i),.list 1 (v5.map e_i)] ⟨[.lsl 0 0 v6.length],[.rows 1 (v6.map e_i)]⟩:=by
 unfold fJ at hr
 have T:=an y75 <| @e_i.eq_1
 apply Spec.fn Try.func73 rfl
 focus (simp[Try.f73]<;>exact rfl)
 focus
  refine wd_ T (g:=?_)
  apply TX.vt (α:=Int) e_i 7 1 rfl
  repeat exact sd T
  with_reducible apply TX.here
  refine wa_ T (g:=?_)
  obtain⟨v20,h13,hr⟩:=bs hr
  refine TX.loopE (step:=bQ v1 v2 v3 v4 v5) (x:=(([]:List Int),0)) h13 (fun (v7,v8)=>⟨.U::.U::.list 1 (v5.map e_i)::.fptr true [.v (.int .i64 v1),.v (.int .i64 v2),.v (.int .i64 v3)] 0::.U::.U::.U::.lsl 0 0 v7.length::.U::.U::.list 1 (v4.map e_i)::.v (.int .i64 (v4.length:Int))::.v (.int .i64 v8)::.U::.U::.U::.U::.U::.U::.U::.U::.U::.U::.U::.U::.U::.U::.U::.U::.U::.U::[],[.rows 1 (v7.map e_i)]⟩) (fun v14=>(.exit 0,⟨.U::.U::.U::.U::.U::.U::.U::.lsl 0 0 v14.length::.U::.U::.U::.U::.U::.U::.U::.U::.U::.U::.U::.U::.U::.U::.U::.U::.U::.U::.U::.U::.U::.U::.U::[],[.rows 1 (v14.map e_i)]⟩)) ?_ ?_ ?_ ?_
  ·rintro⟨v7,v8⟩ v0 hr
   dsimp only[bQ] at hr
   try dsimp only
   refine wa_ T (g:=?_)
   rcases ifs hr with⟨h7,hr⟩|⟨h7,hr⟩
   ·have T:=an h7 T
    refine wa_ T (g:=?_)
    obtain⟨v15,h8,hr⟩:=bs hr
    have h8m:=dZ (f:=e_i) h8
    have h8l:=fQ h8
    try simp only[List.length_set] at h8l
    have h8a:=fS h8
    have T:=an h8m T
    have T:=an h8l T
    have T:=an h8a T
    refine wA T (g:=?_)
    obtain⟨v16,h9,hr⟩:=bs hr
    have h9m:=dZ (f:=e_i) h9
    have h9l:=fQ h9
    try simp only[List.length_set] at h9l
    have h9a:=fS h9
    have T:=an h9m T
    have T:=an h9l T
    have T:=an h9a T
    refine wA T (g:=?_)
    obtain⟨v17,h10,hr⟩:=bs hr
    apply TD.cal (wn T) rfl Qx (jB h10) rfl rfl rfl
    repeat exact sd T
    refine wa_ T (g:=?_)
    obtain⟨v18,h11,hr⟩:=bs hr
    apply TD.cal (wn T) rfl uQ (aY h11) rfl rfl rfl
    repeat exact sd T
    refine wa_ T (g:=?_)
    apply TD.bm e_i ([v18]:List Int) (wn T) rfl (by simp only[zz,y75,e_i,Nat.reduceAdd,Nat.reduceMul,Nat.reduceLeDiff,Nat.reduceEqDiff,tslice,tparts,h7,h8m,h8l,h8a,h9m,h9l,h9a];exact rfl) rfl
    repeat exact sd T
    refine wa_ T (g:=?_)
    obtain⟨v19,h12,hr⟩:=bs hr
    apply TD.ap (f:=e_i) (xs:=v7) (ys:=([v18]:List Int)) (wn T) rfl rfl (by first|rfl|simp only[List.length_set]) rfl rfl so23 ni23 zc3 rfl (by rw[by3];exact h12) (fun _=>⟨rfl,rfl,rfl⟩) rfl
    repeat exact sd T
    refine wa_ T (g:=?_)
    cases hr
    refine⟨rfl,?_⟩
    exact wk_ T [some 0] rfl (.rows .nil rfl rfl)
   ·have T:=an h7 T
    refine wa_ T (g:=?_)
    cases hr
    refine⟨rfl,?_⟩
    exact wk_ T [some 0] rfl (.rows .nil rfl rfl)
  ·intro e h;cases h
  ·try dsimp only
   refine wa_ T (g:=?_)
   cases hr
   refine⟨.inr rfl,_,(ry T),?_⟩
   exact wr [some 0] rfl (.rows .nil rfl rfl)
  ·try dsimp only
   exact wr [some 0] rfl (.rows .nil rfl rfl)
 rfl
def y76:=an @ag3 <| an @ag66 <| an @cs3 <| an @cs66 <| an @Eb <| an @xB <| an @rL <| an @ok3 <| an @ok66 <| an @so23 <| an @zc66 <| @bF
theorem uD{v1:Int}{v2:Int}{v3:Int}{v4:(List Int)}{v5:(List Int)}(hr:jP v1 v2 v3 v4=some (v5)):Spec (lim Try.prog) 72 [.agg [.v (.int .i64 v1),.v (.int .i64 v2),.v (.int .i64 v3)],.list 1 (v4.map e_i)] ⟨[.lsl 0 0 v5.length],[.rows 1 (v5.map e_i)]⟩:=by
 unfold jP at hr
 have T:=an y76 <| @e_i.eq_1
 apply Spec.fn Try.func72 rfl
 focus (simp[Try.f72]<;>exact rfl)
 focus
  refine wB T (g:=?_)
  obtain⟨v6,h1,hr⟩:=bs hr
  apply TO.cal (wn T) rfl Qx (jB h1) rfl rfl rfl
  repeat exact sd T
  refine wA T (g:=?_)
  obtain⟨v7,h2,hr⟩:=bs hr
  apply TO.cal (wn T) rfl Qx (jB h2) rfl rfl rfl
  repeat exact sd T
  refine wA T (g:=?_)
  obtain⟨v8,h3,hr⟩:=bs hr
  apply TO.cal (wn T) rfl Qh (gV h3) rfl rfl rfl
  repeat exact sd T
  refine wc_ T (g:=?_)
  obtain⟨v16,h10,hr⟩:=bs hr
  refine TX.loopE (step:=eQ v1 v2 v3 v7 v8) (x:=(v8,0)) h10 (fun (v9,v10)=>⟨.U::.U::.fptr true [.v (.int .i64 v1),.v (.int .i64 v2),.v (.int .i64 v3)] 0::.U::.U::.U::.v (.int .i64 v7)::.lsl 0 0 v9.length::.U::.U::.U::.U::.U::.U::.U::.U::.U::.U::.U::.U::.U::.U::.U::.U::.U::.U::.lsl 0 0 v9.length::.v (.int .i64 (v8.length:Int))::.v (.int .i64 v10)::.U::.U::.U::.U::.U::.U::.U::.U::.U::.U::.U::.U::.U::[],[.rows 1 (v9.map e_i)]⟩) (fun v13=>(.exit 0,⟨.U::.U::.U::.U::.U::.U::.U::.lsl 0 0 v13.length::.U::.U::.U::.U::.U::.U::.U::.U::.U::.U::.U::.U::.U::.U::.U::.U::.U::.U::.U::.U::.U::.U::.U::.U::.U::.U::.U::.U::.U::.U::.U::.U::.U::.U::[],[.rows 1 (v13.map e_i)]⟩)) ?_ ?_ ?_ ?_
  ·rintro⟨v9,v10⟩ v0 hr
   dsimp only[eQ] at hr
   try dsimp only
   refine wa_ T (g:=?_)
   rcases ifs hr with⟨h7,hr⟩|⟨h7,hr⟩
   ·have T:=an h7 T
    refine wa_ T (g:=?_)
    obtain⟨v14,h8,hr⟩:=bs hr
    have h8m:=dZ (f:=e_i) h8
    have h8l:=fQ h8
    try simp only[List.length_set] at h8l
    have h8a:=fS h8
    have T:=an h8m T
    have T:=an h8l T
    have T:=an h8a T
    refine wA T (g:=?_)
    obtain⟨v15,h9,hr⟩:=bs hr
    apply TO.cal (wn T) rfl uQ (aY h9) rfl rfl rfl
    repeat exact sd T
    refine wa_ T (g:=?_)
    apply TO.sr e_i v9 v14 v15 h8a (wn T) rfl rfl rfl rfl rfl ok3 (by rw[cs3];rfl) rfl rfl rfl rfl
    repeat exact sd T
    refine wa_ T (g:=?_)
    cases hr
    refine⟨rfl,?_⟩
    exact wk_ T [some 0] rfl (.rows .nil rfl rfl)
   ·have T:=an h7 T
    refine wa_ T (g:=?_)
    cases hr
    refine⟨rfl,?_⟩
    exact wk_ T [some 0] rfl (.rows .nil rfl rfl)
  ·intro e h;cases h
  ·try dsimp only
   refine wa_ T (g:=?_)
   cases hr
   refine⟨.inr rfl,_,(ry T),?_⟩
   exact wr [some 0] rfl (.rows .nil rfl rfl)
  ·try dsimp only
   exact wr [some 1] rfl (.rows .nil rfl rfl)
 rfl
def y77:=an @ag3 <| an @xK <| @rL
theorem sC{v1:Int}{v2:Int}{v3:Int}{v4:Int}{v5:Int}(hr:gN v1 v2 v3 v4=some (v5)):Spec (lim Try.prog) 74 [.agg [.v (.int .i64 v1),.v (.int .i64 v2),.v (.int .i64 v3)],.v (.int .i64 v4)] ⟨[.v (.int .i64 v5)],[]⟩:=by
 unfold gN at hr
 have T:=y77
 apply Spec.fn Try.func74 rfl
 focus (simp[Try.f74]<;>exact rfl)
 focus
  refine wB T (g:=?_)
  rcases ifs hr with⟨h1,hr⟩|⟨h1,hr⟩
  ·have T:=an h1 T
   refine wA T (g:=?_)
   cases hr
   refine⟨.inr rfl,_,(ry T),?_⟩
   exact wk_ T [] rfl .nil
  ·have T:=an h1 T
   refine wa_ T (g:=?_)
   cases hr
   refine⟨.inr rfl,_,(ry T),?_⟩
   exact wk_ T [] rfl .nil
 rfl
def y78:=an @ag3 <| an @ag66 <| an @cs3 <| an @cs66 <| an @ok3 <| an @ok66 <| an @so23 <| @bF
theorem lR{v1:Int}{v2:Int}{v3:Int}{v4:(List Int)}{v5:(List Int)}{v6:(List Int)}(hr:bT v1 v2 v3 v4 v5=some (v6)):Spec (lim Try.prog) 46 [.agg [.v (.int .i64 v1),.v (.int .i64 v2),.v (.int .i64 v3)],.list 1 (v4.map e_i),.list 1 (v5.map e_i)] ⟨[.lsl 0 0 v6.length],[.rows 1 (v6.map e_i)]⟩:=by
 unfold bT at hr
 have T:=an y78 <| @e_i.eq_1
 apply Spec.fn Try.func46 rfl
 focus (simp[Try.f46]<;>exact rfl)
 focus
  refine wB T (g:=?_)
  obtain⟨v7,h1,hr⟩:=bs hr
  apply TD.cal (wn T) rfl Qh (gV h1) rfl rfl rfl
  repeat exact sd T
  refine wa_ T (g:=?_)
  obtain⟨v8,h2,hr⟩:=bs hr
  apply TD.lok (wn T) rfl aCo (qZ h2) (vw T) rfl rfl (by simp[nA,cl,e_i,e_c,e_ii])
  repeat exact sd T
  refine wa_ T (g:=?_)
  obtain⟨v9,h3,hr⟩:=bs hr
  apply TD.lok (wn T) rfl aCC (uD h3) (vw T) rfl rfl (by simp[nA,cl,e_i,e_c,e_ii])
  repeat exact sd T
  refine wc_ T (g:=?_)
  obtain⟨v17,h10,hr⟩:=bs hr
  refine TX.loopE (step:=cL v1 v2 v3 v9) (x:=(v9,0)) h10 (fun (v10,v11)=>⟨.U::.U::.U::.fptr true [.v (.int .i64 v1),.v (.int .i64 v2),.v (.int .i64 v3)] 0::.U::.U::.U::.lsl 0 0 v10.length::.U::.U::.U::.U::.U::.U::.U::.U::.U::.U::.lsl 0 0 v10.length::.v (.int .i64 (v9.length:Int))::.v (.int .i64 v11)::.U::.U::.U::.U::.U::.U::.U::.U::.U::.U::.U::.U::[],[.rows 1 (v10.map e_i)]⟩) (fun v14=>(.exit 0,⟨.U::.U::.U::.U::.U::.U::.U::.lsl 0 0 v14.length::.U::.U::.U::.U::.U::.U::.U::.U::.U::.U::.U::.U::.U::.U::.U::.U::.U::.U::.U::.U::.U::.U::.U::.U::.U::[],[.rows 1 (v14.map e_i)]⟩)) ?_ ?_ ?_ ?_
  ·rintro⟨v10,v11⟩ v0 hr
   dsimp only[cL] at hr
   try dsimp only
   refine wa_ T (g:=?_)
   rcases ifs hr with⟨h7,hr⟩|⟨h7,hr⟩
   ·have T:=an h7 T
    refine wa_ T (g:=?_)
    obtain⟨v15,h8,hr⟩:=bs hr
    have h8m:=dZ (f:=e_i) h8
    have h8l:=fQ h8
    try simp only[List.length_set] at h8l
    have h8a:=fS h8
    have T:=an h8m T
    have T:=an h8l T
    have T:=an h8a T
    refine wA T (g:=?_)
    obtain⟨v16,h9,hr⟩:=bs hr
    apply TO.cal (wn T) rfl aCc (sC h9) rfl rfl rfl
    repeat exact sd T
    refine wa_ T (g:=?_)
    apply TO.sr e_i v10 v15 v16 h8a (wn T) rfl rfl rfl rfl rfl ok3 (by rw[cs3];rfl) rfl rfl rfl rfl
    repeat exact sd T
    refine wa_ T (g:=?_)
    cases hr
    refine⟨rfl,?_⟩
    exact wk_ T [some 0] rfl (.rows .nil rfl rfl)
   ·have T:=an h7 T
    refine wa_ T (g:=?_)
    cases hr
    refine⟨rfl,?_⟩
    exact wk_ T [some 0] rfl (.rows .nil rfl rfl)
  ·intro e h;cases h
  ·try dsimp only
   refine wa_ T (g:=?_)
   cases hr
   refine⟨.inr rfl,_,(ry T),?_⟩
   exact wr [some 0] rfl (.rows .nil rfl rfl)
  ·try dsimp only
   exact wr [some 2] rfl (.rows .nil rfl rfl)
 rfl
end Go.Rex
namespace Go.Rex
open Go.Proofs
open Go Go.Rex Go.RowKit
set_option maxRecDepth 100000
set_option maxHeartbeats 1000000
def y79:=an @ag25 <| an @ag3 <| an @ag32 <| an @ag36 <| an @ag66 <| an @ag69 <| an @by88 <| an @cs25 <| an @cs3 <| an @cs36 <| an @cs61 <| an @cs66 <| an @cs69 <| an @cs88 <| an @Ka <| an @Pv <| an @ni76 <| an @ok25 <| an @ok3 <| an @ok36 <| an @ok66 <| an @ok69 <| an @so23 <| an @so76 <| an @so92 <| an @st66 <| an @st69 <| an @st88 <| an @zc61 <| an @zc66 <| an @zc69 <| an @zc88 <| @bF
theorem tY{v1:(List (Nat×Nat))}{v2:Int}{v3:(List Int)}{v4:Int}{v5:Int}{v6:Int}{v7:Int}{v8:(List (Nat×Nat))}{v9:Int}(hr:gJ v1 v2 v3 v4 v5 v6 v7=some (v8,v9)):Spec (lim Try.prog) 13 [.list 1 (v1.map e_c),.agg [.v (.int .i64 v2),.list 1 (v3.map e_i),.v (.int .i64 v4)],.agg [.v (.int .i64 v5),.v (.int .i64 v6),.v (.int .i64 v7)]] ⟨[.tuple [.lsl 0 0 v8.length,.v (.int .i64 v9)]],[.rows 1 (v8.map e_c)]⟩:=by
 unfold gJ at hr
 have T:=an y79 <| an @e_c.eq_1 <| an @e_i.eq_1 <| @e_ii.eq_1
 apply Spec.fn Try.func13 rfl
 focus (simp[Try.f13]<;>exact rfl)
 focus
  repeat (first|(with_reducible first|refine mv ?_|refine m12 rfl ?_|refine TO.nil ?_)|((with_reducible first|apply TO.bf|apply TO.asg);(repeat (focus (show _=_;first|exact k1 rfl|exact k2 rfl|(simp only[zz,y79,e_c,e_i,e_ii,Nat.reduceAdd,Nat.reduceMul,Nat.reduceLeDiff,Nat.reduceEqDiff]<;>exact rfl)|exact rfl)));(with_reducible apply TO.here))|((with_reducible apply TX.region);(focus (simp only[zl]<;>exact rfl));(focus rfl);(try dsimp only))|with_reducible refine TD.nil ?_|((with_reducible first|apply TD.fa|apply TD.ld|apply TD.bld|apply TD.al|apply TD.sv);(repeat (focus (show _=_;first|exact k1 rfl|exact k2 rfl|(simp only[zz,y79,e_c,e_i,e_ii,Nat.reduceAdd,Nat.reduceMul,Nat.reduceLeDiff,Nat.reduceEqDiff,aM,tload,aN,aP,List.getElem?_map,tbuild,tfill]<;>exact rfl)|exact rfl)));(with_reducible refine TD.here ?_))|((with_reducible apply TD.ldF);(focus decide +kernel);(repeat (focus (show _=_;first|exact k1 rfl|exact k2 rfl|(simp only[zz,y79,e_c,e_i,e_ii,Nat.reduceAdd,Nat.reduceMul,Nat.reduceLeDiff,Nat.reduceEqDiff,aM,tload,aN,aP,List.getElem?_map,tbuild,tfill]<;>exact rfl)|exact rfl)));(with_reducible refine TD.here ?_))|((with_reducible apply TX.drawn);(focus decide +kernel);(focus (simp only[zl]<;>exact rfl));(focus exact rfl);(try dsimp only))|fail)
  obtain⟨v10,h1,hr⟩:=bs hr
  apply TD.cal (wn T) rfl Pi (nR h1) rfl rfl rfl
  repeat exact sd T
  repeat (first|(with_reducible first|refine mv ?_|refine m12 rfl ?_|refine TD.nil ?_)|((with_reducible first|apply TD.ld|apply TD.mf|apply TD.fa);(repeat (focus (show _=_;first|exact k1 rfl|exact k2 rfl|(simp only[zz,y79,e_c,e_i,e_ii,Nat.reduceAdd,Nat.reduceMul,Nat.reduceLeDiff,Nat.reduceEqDiff,tload,aN,aP,List.getElem?_map,aM]<;>exact rfl)|exact rfl)));(with_reducible refine TD.here ?_))|((with_reducible apply TD.ldF);(focus decide +kernel);(repeat (focus (show _=_;first|exact k1 rfl|exact k2 rfl|(simp only[zz,y79,e_c,e_i,e_ii,Nat.reduceAdd,Nat.reduceMul,Nat.reduceLeDiff,Nat.reduceEqDiff,tload,aN,aP,List.getElem?_map,aM]<;>exact rfl)|exact rfl)));(with_reducible refine TD.here ?_))|((with_reducible apply TX.drawn);(focus decide +kernel);(focus (simp only[zl]<;>exact rfl));(focus exact rfl);(try dsimp only))|fail)
  obtain⟨⟨v11,v12,v13⟩,h2,hr⟩:=bs hr
  try dsimp only at hr
  apply TD.cal (wn T) rfl Rf (fM h2) rfl rfl rfl
  repeat exact sd T
  repeat (first|(with_reducible first|refine mv ?_|refine m12 rfl ?_|refine TD.nil ?_)|((with_reducible first|apply TD.ld|apply TD.mf);(repeat (focus (show _=_;first|exact k1 rfl|exact k2 rfl|(simp only[zz,y79,e_c,e_i,e_ii,Nat.reduceAdd,Nat.reduceMul,Nat.reduceLeDiff,Nat.reduceEqDiff,tload,aN,aP,List.getElem?_map]<;>exact rfl)|exact rfl)));(with_reducible refine TD.here ?_))|((with_reducible apply TD.ldF);(focus decide +kernel);(repeat (focus (show _=_;first|exact k1 rfl|exact k2 rfl|(simp only[zz,y79,e_c,e_i,e_ii,Nat.reduceAdd,Nat.reduceMul,Nat.reduceLeDiff,Nat.reduceEqDiff,tload,aN,aP,List.getElem?_map]<;>exact rfl)|exact rfl)));(with_reducible refine TD.here ?_))|((with_reducible apply TX.drawn);(focus decide +kernel);(focus (simp only[zl]<;>exact rfl));(focus exact rfl);(try dsimp only))|fail)
  apply TD.frz 0 rfl rfl
  repeat exact sd T
  refine we_ T (g:=?_)
  obtain⟨v14,h3,hr⟩:=bs hr
  apply TD.cal (wn T) rfl nZ (qQ h3) rfl rfl rfl
  repeat exact sd T
  refine wa_ T (g:=?_)
  rcases ifs hr with⟨h4,hr⟩|⟨h4,hr⟩
  ·have T:=an h4 T
   refine wa_ T (g:=?_)
   cases hr
   refine⟨.inr rfl,_,(ry T),?_⟩
   exact wk_ T [none] rfl (.virt .nil)
  ·repeat (first|(with_reducible first|refine mv ?_|refine m12 rfl ?_|refine TD.nil ?_)|((with_reducible first|apply TD.ld|apply TD.fa);(repeat (focus (show _=_;first|exact k1 rfl|exact k2 rfl|(simp only[zz,y79,e_c,e_i,e_ii,Nat.reduceAdd,Nat.reduceMul,Nat.reduceLeDiff,Nat.reduceEqDiff,tload,aN,aP,List.getElem?_map,aM,h4]<;>exact rfl)|exact rfl)));(with_reducible refine TD.here ?_))|((with_reducible apply TD.ldF);(focus decide +kernel);(repeat (focus (show _=_;first|exact k1 rfl|exact k2 rfl|(simp only[zz,y79,e_c,e_i,e_ii,Nat.reduceAdd,Nat.reduceMul,Nat.reduceLeDiff,Nat.reduceEqDiff,tload,aN,aP,List.getElem?_map,aM,h4]<;>exact rfl)|exact rfl)));(with_reducible refine TD.here ?_))|((with_reducible apply TX.drawn);(focus decide +kernel);(focus (simp only[zl]<;>exact rfl));(focus exact rfl);(try dsimp only))|((with_reducible apply TX.cond_true);(focus rfl);(focus (first|rfl|(simp only[z1,zn,h4];done))))|((with_reducible apply TX.cond_false);(focus rfl);(focus (first|rfl|(simp only[z1,zn,h4];done))))|fail)
   obtain⟨v15,h5,hr⟩:=bs hr
   have T:=an h4 T
   apply TD.cal (wn T) rfl aAr (kU h5) rfl rfl rfl
   repeat exact sd T
   refine wa_ T (g:=?_)
   obtain⟨v16,h6,hr⟩:=bs hr
   apply TD.lok (wn T) rfl Qh (gV h6) (vw T) rfl rfl (by simp[nA,cl,e_i,e_c,e_ii])
   repeat exact sd T
   refine wA T (g:=?_)
   obtain⟨v17,h7,hr⟩:=bs hr
   apply TO.cal (wn T) rfl Rs (kZ h7) rfl rfl rfl
   repeat exact sd T
   refine wa_ T (g:=?_)
   obtain⟨⟨v18,v19⟩,h8,hr⟩:=bs hr
   try dsimp only at hr
   apply TO.lok (wn T) rfl aCk (Ah h8) (vw T) rfl rfl (by simp[nA,cl,e_i,e_c,e_ii])
   repeat exact sd T
   repeat (first|(with_reducible first|refine mv ?_|refine m12 rfl ?_|refine TO.nil ?_)|((with_reducible first|apply TO.mv|apply TO.ext|apply TO.asg);(repeat (focus (show _=_;first|exact k1 rfl|exact k2 rfl|(simp only[zz,y79,e_c,e_i,e_ii,Nat.reduceAdd,Nat.reduceMul,Nat.reduceLeDiff,Nat.reduceEqDiff,h4]<;>exact rfl)|exact rfl)));(with_reducible apply TO.here))|((with_reducible apply TX.region);(focus (simp only[zl]<;>exact rfl));(focus rfl);(try dsimp only))|with_reducible refine TD.nil ?_|((with_reducible first|apply TD.ld|apply TD.mv);(repeat (focus (show _=_;first|exact k1 rfl|exact k2 rfl|(simp only[zz,y79,e_c,e_i,e_ii,Nat.reduceAdd,Nat.reduceMul,Nat.reduceLeDiff,Nat.reduceEqDiff,tload,aN,aP,List.getElem?_map,h4]<;>exact rfl)|exact rfl)));(with_reducible refine TD.here ?_))|((with_reducible apply TD.ldF);(focus decide +kernel);(repeat (focus (show _=_;first|exact k1 rfl|exact k2 rfl|(simp only[zz,y79,e_c,e_i,e_ii,Nat.reduceAdd,Nat.reduceMul,Nat.reduceLeDiff,Nat.reduceEqDiff,tload,aN,aP,List.getElem?_map,h4]<;>exact rfl)|exact rfl)));(with_reducible refine TD.here ?_))|((with_reducible apply TX.drawn);(focus decide +kernel);(focus (simp only[zl]<;>exact rfl));(focus exact rfl);(try dsimp only))|fail)
   obtain⟨v20,h9,hr⟩:=bs hr
   apply TD.lok (wn T) rfl Yu (lR h9) (vw T) rfl rfl (by simp[nA,cl,e_i,e_c,e_ii])
   repeat exact sd T
   repeat (first|(with_reducible first|refine mv ?_|refine m12 rfl ?_|refine TD.nil ?_)|((with_reducible first|apply TD.ld|apply TD.mv);(repeat (focus (show _=_;first|exact k1 rfl|exact k2 rfl|(simp only[zz,y79,e_c,e_i,e_ii,Nat.reduceAdd,Nat.reduceMul,Nat.reduceLeDiff,Nat.reduceEqDiff,tload,aN,aP,List.getElem?_map,h4]<;>exact rfl)|exact rfl)));(with_reducible refine TD.here ?_))|((with_reducible apply TD.ldF);(focus decide +kernel);(repeat (focus (show _=_;first|exact k1 rfl|exact k2 rfl|(simp only[zz,y79,e_c,e_i,e_ii,Nat.reduceAdd,Nat.reduceMul,Nat.reduceLeDiff,Nat.reduceEqDiff,tload,aN,aP,List.getElem?_map,h4]<;>exact rfl)|exact rfl)));(with_reducible refine TD.here ?_))|((with_reducible apply TX.drawn);(focus decide +kernel);(focus (simp only[zl]<;>exact rfl));(focus exact rfl);(try dsimp only))|fail)
   obtain⟨v21,h10,hr⟩:=bs hr
   apply TD.lok (wn T) rfl Yu (lR h10) (vw T) rfl rfl (by simp[nA,cl,e_i,e_c,e_ii])
   repeat exact sd T
   refine wc_ T (g:=?_)
   apply TX.vt (α:=(Int×Int)) e_ii 16 2 rfl
   repeat exact sd T
   with_reducible apply TX.here
   refine wa_ T (g:=?_)
   obtain⟨v31,h19,hr⟩:=bs hr
   refine TX.loopE (step:=bZ v20 v21) (x:=(([]:List (Int×Int)),0)) h19 (fun (v22,v23)=>⟨.U::.U::.U::.U::.U::.U::.U::.U::.U::.U::.U::.U::.U::.U::.lsl 0 0 v20.length::.lsl 1 0 v21.length::.lsl 2 0 v22.length::.U::.U::.U::.U::.U::.U::.U::.U::.U::.U::.U::.U::.U::.U::.U::.U::.U::.U::.U::.U::.U::.U::.U::.U::.U::.U::.U::.U::.U::.U::.U::.U::.U::.U::.U::.U::.U::.U::.U::.U::.U::.U::.U::.U::.U::.v (.int .i64 (v20.length:Int))::.v (.int .i64 v23)::.U::.U::.U::.U::.U::.U::.U::.U::.U::.U::.U::.U::.U::.U::.U::.U::.U::.U::.U::[],[.rows 1 (v20.map e_i),.rows 1 (v21.map e_i),.rows 2 (v22.map e_ii)]⟩) (fun v27=>(.exit 0,⟨.U::.U::.U::.U::.U::.U::.U::.U::.U::.U::.U::.U::.U::.U::.U::.U::.lsl 0 0 v27.length::.U::.U::.U::.U::.U::.U::.U::.U::.U::.U::.U::.U::.U::.U::.U::.U::.U::.U::.U::.U::.U::.U::.U::.U::.U::.U::.U::.U::.U::.U::.U::.U::.U::.U::.U::.U::.U::.U::.U::.U::.U::.U::.U::.U::.U::.U::.U::.U::.U::.U::.U::.U::.U::.U::.U::.U::.U::.U::.U::.U::.U::.U::.U::.U::.U::.U::[],[.rows 2 (v27.map e_ii)]⟩)) ?_ ?_ ?_ ?_
   ·rintro⟨v22,v23⟩ v0 hr
    dsimp only[bZ] at hr
    try dsimp only
    refine wa_ T (g:=?_)
    rcases ifs hr with⟨h15,hr⟩|⟨h15,hr⟩
    ·have T:=an h15 T
     refine wa_ T (g:=?_)
     obtain⟨v28,h16,hr⟩:=bs hr
     have h16m:=dZ (f:=e_i) h16
     have h16l:=fQ h16
     try simp only[List.length_set] at h16l
     have h16a:=fS h16
     repeat (first|(with_reducible first|refine mv ?_|refine m12 rfl ?_|refine TD.nil ?_)|((with_reducible first|apply TD.ia|apply TD.ld|apply TD.mv);(repeat (focus (show _=_;first|exact k1 rfl|exact k2 rfl|(simp only[zz,y79,e_c,e_i,e_ii,Nat.reduceAdd,Nat.reduceMul,Nat.reduceLeDiff,Nat.reduceEqDiff,aB,Nat.zero_add,tload,aN,aP,List.getElem?_map,h4,h15,h16m,h16l,h16a]<;>exact rfl)|exact rfl)));(with_reducible refine TD.here ?_))|((with_reducible apply TD.ldF);(focus decide +kernel);(repeat (focus (show _=_;first|exact k1 rfl|exact k2 rfl|(simp only[zz,y79,e_c,e_i,e_ii,Nat.reduceAdd,Nat.reduceMul,Nat.reduceLeDiff,Nat.reduceEqDiff,aB,Nat.zero_add,tload,aN,aP,List.getElem?_map,h4,h15,h16m,h16l,h16a]<;>exact rfl)|exact rfl)));(with_reducible refine TD.here ?_))|((with_reducible apply TX.drawn);(focus decide +kernel);(focus (simp only[zl]<;>exact rfl));(focus exact rfl);(try dsimp only))|fail)
     obtain⟨v29,h17,hr⟩:=bs hr
     have h17m:=dZ (f:=e_i) h17
     have h17l:=fQ h17
     try simp only[List.length_set] at h17l
     have h17a:=fS h17
     repeat (first|(with_reducible first|refine mv ?_|refine m12 rfl ?_|refine TD.nil ?_)|((with_reducible first|apply TD.ia|apply TD.ld|apply TD.bld);(repeat (focus (show _=_;first|exact k1 rfl|exact k2 rfl|(simp only[zz,y79,e_c,e_i,e_ii,Nat.reduceAdd,Nat.reduceMul,Nat.reduceLeDiff,Nat.reduceEqDiff,aB,Nat.zero_add,tload,aN,aP,List.getElem?_map,tbuild,tfill,h4,h15,h16m,h16l,h16a,h17m,h17l,h17a]<;>exact rfl)|exact rfl)));(with_reducible refine TD.here ?_))|((with_reducible apply TD.ldF);(focus decide +kernel);(repeat (focus (show _=_;first|exact k1 rfl|exact k2 rfl|(simp only[zz,y79,e_c,e_i,e_ii,Nat.reduceAdd,Nat.reduceMul,Nat.reduceLeDiff,Nat.reduceEqDiff,aB,Nat.zero_add,tload,aN,aP,List.getElem?_map,tbuild,tfill,h4,h15,h16m,h16l,h16a,h17m,h17l,h17a]<;>exact rfl)|exact rfl)));(with_reducible refine TD.here ?_))|((with_reducible apply TX.drawn);(focus decide +kernel);(focus (simp only[zl]<;>exact rfl));(focus exact rfl);(try dsimp only))|fail)
     have T:=an h16m T
     have T:=an h16l T
     have T:=an h16a T
     have T:=an h17m T
     have T:=an h17l T
     have T:=an h17a T
     apply TD.bm e_ii ([(v28,v29)]:List (Int×Int)) (wn T) rfl (by simp only[zz,y79,e_c,e_i,e_ii,Nat.reduceAdd,Nat.reduceMul,Nat.reduceLeDiff,Nat.reduceEqDiff,tslice,tparts,h4,h15,h16m,h16l,h16a,h17m,h17l,h17a];exact rfl) rfl
     repeat exact sd T
     refine wa_ T (g:=?_)
     obtain⟨v30,h18,hr⟩:=bs hr
     apply TD.ap (f:=e_ii) (xs:=v22) (ys:=([(v28,v29)]:List (Int×Int))) (wn T) rfl rfl (by first|rfl|simp only[List.length_set]) rfl rfl so76 ni76 zc88 rfl (by rw[by88];exact h18) (fun _=>⟨rfl,rfl,rfl⟩) rfl
     repeat exact sd T
     refine wa_ T (g:=?_)
     cases hr
     refine⟨rfl,?_⟩
     exact wk_ T [some 0,some 1,some 2] rfl (.rows (.rows (.rows .nil rfl rfl) rfl rfl) rfl rfl)
    ·have T:=an h15 T
     refine wa_ T (g:=?_)
     cases hr
     refine⟨rfl,?_⟩
     exact wk_ T [some 2] rfl (.rows .nil rfl rfl)
   ·intro e h;cases h
   ·try dsimp only
    refine wa_ T (g:=?_)
    obtain⟨⟨v32,v33⟩,h20,hr⟩:=bs hr
    try dsimp only at hr
    apply TO.lok (wn T) rfl Hv (jF h20) (vw T) rfl rfl (by simp[nA,cl,e_i,e_c,e_ii])
    repeat exact sd T
    refine wa_ T (g:=?_)
    cases hr
    refine⟨.inr rfl,_,(ry T),?_⟩
    exact wk_ T [some 1] rfl (.rows .nil rfl rfl)
   ·try dsimp only
    exact wk_ T [some 7,some 8,some 9] rfl (.rows (.rows (.rows .nil rfl rfl) rfl rfl) rfl rfl)
 rfl
end Go.Rex
namespace Go.Rex
open Go.Proofs
open Go Go.Rex Go.RowKit
set_option maxRecDepth 100000
set_option maxHeartbeats 200000
def y80:=an @ag61 <| an @cs61 <| an @ok61 <| an @so92 <| an @bF <| an @kW <| @qX
theorem qE{v1:(List (Nat×Nat))}{v2:Int}{v3:(List Int)}{v4:Int}{v5:Int}{v6:(List Int)}{v7:Int}(hr:iA v1 v2 v3 v4 v5 v6=some (v7)):Spec (lim Try.prog) 22 [.list 1 [[.func 54 [] [.fptr true [.list 1 (v1.map e_c)] 0]],[.func 28 [.agg [.v (.int .i64 v2),.list 1 (v3.map e_i)]] []],[.func 59 [] [.fptr true [.v (.int .i64 v4)] 0,.fptr true [.v (.int .i64 v5),.list 1 (v6.map e_i)] 0]]]] ⟨[.v (.int .i64 v7)],[]⟩:=by
 unfold iA at hr
 have T:=an y80 <| an @e_c.eq_1 <| @e_i.eq_1
 apply Spec.fn Try.func22 rfl
 focus (simp[Try.f22]<;>exact rfl)
 focus
  refine wc_ T (g:=?_)
  refine TX.unroll ?_
  repeat (first|(with_reducible first|refine mv ?_|refine m12 rfl ?_|refine TO.nil ?_)|((with_reducible first|apply TO.bin|apply TO.ia|apply TO.ld|apply TO.asg|apply TO.mv);(repeat (focus (show _=_;first|exact k1 rfl|exact k2 rfl|(simp only[zz,y80,e_c,e_i,Nat.reduceAdd,Nat.reduceMul,Nat.reduceLeDiff,Nat.reduceEqDiff,aB,z5,Int.reduceToNat,Int.reduceLE,Int.reduceLT,Int.cast_ofNat_Int,tload,aN,aP,List.getElem?_map]<;>exact rfl)|exact rfl)));(with_reducible apply TO.here))|((with_reducible apply TX.region);(focus (simp only[zl]<;>exact rfl));(focus rfl);(try dsimp only))|((with_reducible apply TX.cond_true);(focus rfl);(focus (first|rfl|(simp only[z1,zn];done))))|((with_reducible apply TX.cond_false);(focus rfl);(focus (first|rfl|(simp only[z1,zn];done))))|fail)
  obtain⟨v8,h1,hr⟩:=bs hr
  apply TO.cal (wn T) rfl Qk (iK h1) rfl rfl rfl
  repeat exact sd T
  refine wa_ T (g:=?_)
  rcases ifs hr with⟨h2,hr⟩|⟨h2,hr⟩
  ·have T:=an h2 T
   refine wa_ T (g:=?_)
   cases hr
   refine⟨.inr rfl,_,(ry T),?_⟩
   exact wk_ T [] rfl .nil
  ·have T:=an h2 T
   refine wa_ T (g:=?_)
   refine TX.unroll ?_
   repeat (first|(with_reducible first|refine mv ?_|refine m12 rfl ?_|refine TO.nil ?_)|((with_reducible first|apply TO.bin|apply TO.ia|apply TO.ld|apply TO.asg|apply TO.mv);(repeat (focus (show _=_;first|exact k1 rfl|exact k2 rfl|(simp only[zz,y80,e_c,e_i,Nat.reduceAdd,Nat.reduceMul,Nat.reduceLeDiff,Nat.reduceEqDiff,aB,z5,Int.reduceToNat,Int.reduceLE,Int.reduceLT,Int.cast_ofNat_Int,tload,aN,aP,List.getElem?_map,h2]<;>exact rfl)|exact rfl)));(with_reducible apply TO.here))|((with_reducible apply TX.region);(focus (simp only[zl]<;>exact rfl));(focus rfl);(try dsimp only))|((with_reducible apply TX.cond_true);(focus rfl);(focus (first|rfl|(simp only[z1,zn,h2];done))))|((with_reducible apply TX.cond_false);(focus rfl);(focus (first|rfl|(simp only[z1,zn,h2];done))))|fail)
   obtain⟨v9,h3,hr⟩:=bs hr
   apply TO.cal (wn T) rfl Rn (gP h3) rfl rfl rfl
   repeat exact sd T
   refine wa_ T (g:=?_)
   rcases ifs hr with⟨h4,hr⟩|⟨h4,hr⟩
   ·have T:=an h4 T
    refine wa_ T (g:=?_)
    cases hr
    refine⟨.inr rfl,_,(ry T),?_⟩
    exact wk_ T [] rfl .nil
   ·have T:=an h4 T
    refine wa_ T (g:=?_)
    refine TX.unroll ?_
    repeat (first|(with_reducible first|refine mv ?_|refine m12 rfl ?_|refine TO.nil ?_)|((with_reducible first|apply TO.bin|apply TO.ia|apply TO.ld|apply TO.asg|apply TO.mv);(repeat (focus (show _=_;first|exact k1 rfl|exact k2 rfl|(simp only[zz,y80,e_c,e_i,Nat.reduceAdd,Nat.reduceMul,Nat.reduceLeDiff,Nat.reduceEqDiff,aB,z5,Int.reduceToNat,Int.reduceLE,Int.reduceLT,Int.cast_ofNat_Int,tload,aN,aP,List.getElem?_map,h2,h4]<;>exact rfl)|exact rfl)));(with_reducible apply TO.here))|((with_reducible apply TX.region);(focus (simp only[zl]<;>exact rfl));(focus rfl);(try dsimp only))|((with_reducible apply TX.cond_true);(focus rfl);(focus (first|rfl|(simp only[z1,zn,h2,h4];done))))|((with_reducible apply TX.cond_false);(focus rfl);(focus (first|rfl|(simp only[z1,zn,h2,h4];done))))|fail)
    obtain⟨v10,h5,hr⟩:=bs hr
    apply TO.cal (wn T) rfl Pf (cV h5) rfl rfl rfl
    repeat exact sd T
    refine wa_ T (g:=?_)
    rcases ifs hr with⟨h6,hr⟩|⟨h6,hr⟩
    ·have T:=an h6 T
     refine wa_ T (g:=?_)
     cases hr
     refine⟨.inr rfl,_,(ry T),?_⟩
     exact wk_ T [] rfl .nil
    ·have T:=an h6 T
     refine wa_ T (g:=?_)
     refine TX.unroll ?_
     refine wa_ T (g:=?_)
     cases hr
     refine⟨.inr rfl,_,(ry T),?_⟩
     exact wk_ T [] rfl .nil
 rfl
def y81:=an @ag88 <| an @by88 <| an @cs88 <| an @ok88 <| an @so76 <| an @zc88 <| @bF
theorem wJ{v1:(List (Int×Int))}{v2:Int}{v3:(List (Int×Int))}(hr:jK v1 v2=some (v3)):Spec (lim Try.prog) 47 [.list 2 (v1.map e_ii),.v (.int .i64 v2)] ⟨[.lsl 0 0 v3.length],[.rows 2 (v3.map e_ii)]⟩:=by
 unfold jK at hr
 have T:=an y81 <| @e_ii.eq_1
 apply Spec.fn Try.func47 rfl
 focus (simp[Try.f47]<;>exact rfl)
 focus
  refine wa_ T (g:=?_)
  obtain⟨v4,h1,hr⟩:=bs hr
  apply TO.mk e_ii h1 (wn T) rfl rfl so76 zc88 by88 rfl rfl rfl
  repeat exact sd T
  refine wc_ T (g:=?_)
  obtain⟨v20,h12,hr⟩:=bs hr
  refine TX.loopE (step:=eB v1 v2) (x:=(v4,0)) h12 (fun (v5,v6)=>⟨.U::.v (.int .i64 v2)::.U::.U::.U::.lsl 0 0 v5.length::.U::.U::.U::.U::.list 2 (v1.map e_ii)::.v (.int .i64 (v1.length:Int))::.v (.int .i64 v6)::.U::.U::.U::.U::.U::.U::.U::.U::.U::.U::.U::.U::.U::.U::.U::.U::.U::.U::.U::[],[.rows 2 (v5.map e_ii)]⟩) (fun v13=>(.exit 0,⟨.U::.U::.U::.U::.U::.lsl 0 0 v13.length::.U::.U::.U::.U::.U::.U::.U::.U::.U::.U::.U::.U::.U::.U::.U::.U::.U::.U::.U::.U::.U::.U::.U::.U::.U::.U::[],[.rows 2 (v13.map e_ii)]⟩)) ?_ ?_ ?_ ?_
  ·rintro⟨v5,v6⟩ v0 hr
   dsimp only[eB] at hr
   try dsimp only
   refine wa_ T (g:=?_)
   rcases ifs hr with⟨h7,hr⟩|⟨h7,hr⟩
   ·have T:=an h7 T
    refine wa_ T (g:=?_)
    obtain⟨⟨v14,v15⟩,h8,hr⟩:=bs hr
    try dsimp only at hr
    have T:=an (gx e_ii h8) T
    refine wA T (g:=?_)
    by_cases h9:v2=0
    ·rw[if_pos h9] at hr
     cases hr
    ·rw[if_neg h9] at hr
     have T:=an h9 T
     refine wa_ T (g:=?_)
     obtain⟨⟨v16,v17⟩,h10,hr⟩:=bs hr
     try dsimp only at hr
     have h10m:=dZ (f:=e_ii) h10
     have h10l:=fQ h10
     try simp only[List.length_set] at h10l
     have h10a:=fS h10
     have T:=an h10m T
     have T:=an h10l T
     have T:=an h10a T
     refine wA T (g:=?_)
     obtain⟨⟨v18,v19⟩,h11,hr⟩:=bs hr
     try dsimp only at hr
     apply TD.cal (wn T) rfl Px (jS h11) rfl rfl rfl
     repeat exact sd T
     refine wa_ T (g:=?_)
     apply TD.sr e_ii v5 (v16,v17) (v18,v19) h10a (wn T) rfl rfl rfl rfl rfl ok88 (by rw[cs88];rfl) rfl rfl rfl rfl rfl
     repeat exact sd T
     refine wa_ T (g:=?_)
     cases hr
     refine⟨rfl,?_⟩
     exact wk_ T [some 0] rfl (.rows .nil rfl rfl)
   ·have T:=an h7 T
    refine wa_ T (g:=?_)
    cases hr
    refine⟨rfl,?_⟩
    exact wk_ T [some 0] rfl (.rows .nil rfl rfl)
  ·intro e h;cases h
  ·try dsimp only
   refine wa_ T (g:=?_)
   cases hr
   refine⟨.inr rfl,_,(ry T),?_⟩
   exact wr [some 0] rfl (.rows .nil rfl rfl)
  ·try dsimp only
   exact wr [some 0] rfl (.rows .nil rfl rfl)
 rfl
def y82:=@ag74
theorem qF{v1:Int}{v2:Int}{v3:(List Int)}{v4:Int}(hr:hU v1 v2 v3=some (v4)):Spec (lim Try.prog) 48 [.v (.int .i64 v1),.v (.int .i64 v2),.fptr true [.func 62 [] [.fptr true [.list 1 (v3.map e_i)] 0]] 0] ⟨[.v (.int .i64 v4)],[]⟩:=by
 unfold hU at hr
 have T:=an y82 <| @e_i.eq_1
 apply Spec.fn Try.func48 rfl
 focus (simp[Try.f48]<;>exact rfl)
 focus
  refine wA T (g:=?_)
  obtain⟨v5,h1,hr⟩:=bs hr
  apply TO.cal (wn T) rfl Yl (gD h1) rfl rfl rfl
  repeat exact sd T
  refine wa_ T (g:=?_)
  cases hr
  refine⟨.inr rfl,_,(ry T),?_⟩
  exact wr [] rfl .nil
 rfl
end Go.Rex
namespace Go.Rex
open Go.Proofs
open Go Go.Rex Go.RowKit
set_option maxRecDepth 100000
set_option maxHeartbeats 1000000
def y83:=an @ag88 <| an @by88 <| an @cs88 <| an @ok88 <| an @so76 <| an @zc88 <| @bF
theorem sR{v1:(List (Int×Int))}{v2:(List Int)}{v3:(List (Int×Int))}(hr:fD v1 v2=some (v3)):Spec (lim Try.prog) 35 [.list 2 (v1.map e_ii),.func 48 [] [.fptr true [.func 62 [] [.fptr true [.list 1 (v2.map e_i)] 0]] 0]] ⟨[.lsl 0 0 v3.length],[.rows 2 (v3.map e_ii)]⟩:=by
 unfold fD at hr
 have T:=an y83 <| an @e_i.eq_1 <| @e_ii.eq_1
 apply Spec.fn Try.func35 rfl
 focus (simp[Try.f35]<;>exact rfl)
 focus
  refine wc_ T (g:=?_)
  obtain⟨v4,h1,hr⟩:=bs hr
  apply TO.mk e_ii h1 (wn T) rfl rfl so76 zc88 by88 rfl rfl rfl
  repeat exact sd T
  refine wc_ T (g:=?_)
  obtain⟨v52,h30,hr⟩:=bs hr
  refine TX.loopE (step:=dD v1 v2 v4) (x:=(v4,0)) h30 (fun (v5,v6)=>⟨.list 2 (v1.map e_ii)::.func 48 [] [.fptr true [.func 62 [] [.fptr true [.list 1 (v2.map e_i)] 0]] 0]::.U::.U::.U::.lsl 0 0 v5.length::.U::.U::.U::.U::.U::.U::.U::.v (.int .i64 (v4.length:Int))::.v (.int .i64 v6)::.U::.U::.U::.U::.U::.U::.U::.U::.U::.U::.U::.U::.U::.U::.U::.U::.U::.U::.U::.U::.U::.U::.U::.U::.U::.U::[],[.rows 2 (v5.map e_ii)]⟩) (fun v29=>(.exit 0,⟨.U::.U::.U::.U::.U::.lsl 0 0 v29.length::.U::.U::.U::.U::.U::.U::.U::.U::.U::.U::.U::.U::.U::.U::.U::.U::.U::.U::.U::.U::.U::.U::.U::.U::.U::.U::.U::.U::.U::.U::.U::.U::.U::.U::.U::[],[.rows 2 (v29.map e_ii)]⟩)) ?_ ?_ ?_ ?_
  ·rintro⟨v5,v6⟩ v0 hr
   dsimp only[dD] at hr
   try dsimp only
   refine wa_ T (g:=?_)
   rcases ifs hr with⟨h16,hr⟩|⟨h16,hr⟩
   ·have T:=an h16 T
    refine wc_ T (g:=?_)
    obtain⟨v51,h29,hr⟩:=bs hr
    refine TX.loopE (step:=bN v1 v2 v6) (x:=(v5,0)) h29 (fun (v30,v31)=>⟨.list 2 (v1.map e_ii)::.func 48 [] [.fptr true [.func 62 [] [.fptr true [.list 1 (v2.map e_i)] 0]] 0]::.U::.U::.U::.lsl 0 0 v30.length::.v (.int .i64 v6)::.U::.U::.U::.U::.U::.U::.v (.int .i64 (v4.length:Int))::.v (.int .i64 v6)::.U::.U::.list 2 (v1.map e_ii)::.v (.int .i64 (v1.length:Int))::.v (.int .i64 v31)::.U::.U::.U::.U::.U::.U::.U::.U::.U::.U::.U::.U::.U::.U::.U::.U::.U::.U::.U::.U::.U::[],[.rows 2 (v30.map e_ii)]⟩) (fun v41=>(.exit 2,⟨.list 2 (v1.map e_ii)::.func 48 [] [.fptr true [.func 62 [] [.fptr true [.list 1 (v2.map e_i)] 0]] 0]::.U::.U::.U::.lsl 0 0 v41.length::.U::.U::.U::.U::.U::.U::.U::.v (.int .i64 (v4.length:Int))::.v (.int .i64 v6)::.U::.U::.U::.U::.U::.U::.U::.U::.U::.U::.U::.U::.U::.U::.U::.U::.U::.U::.U::.U::.U::.U::.U::.U::.U::.U::[],[.rows 2 (v41.map e_ii)]⟩)) ?_ ?_ ?_ ?_
    ·rintro⟨v30,v31⟩ v0 hr
     dsimp only[bN] at hr
     try dsimp only
     refine wa_ T (g:=?_)
     rcases ifs hr with⟨h23,hr⟩|⟨h23,hr⟩
     ·have T:=an h23 T
      refine wa_ T (g:=?_)
      obtain⟨⟨v42,v43⟩,h24,hr⟩:=bs hr
      try dsimp only at hr
      have T:=an (gx e_ii h24) T
      refine wA T (g:=?_)
      obtain⟨⟨v44,v45⟩,h25,hr⟩:=bs hr
      try dsimp only at hr
      have h25m:=dZ (f:=e_ii) h25
      have h25l:=fQ h25
      try simp only[List.length_set] at h25l
      have h25a:=fS h25
      have T:=an h25m T
      have T:=an h25l T
      have T:=an h25a T
      refine wA T (g:=?_)
      obtain⟨v46,h26,hr⟩:=bs hr
      apply TD.cal (wn T) rfl aCd (qF h26) rfl rfl rfl
      repeat exact sd T
      refine wa_ T (g:=?_)
      obtain⟨⟨v47,v48⟩,h27,hr⟩:=bs hr
      try dsimp only at hr
      apply TD.cal (wn T) rfl Ys (kS h27) rfl rfl rfl
      repeat exact sd T
      refine wa_ T (g:=?_)
      obtain⟨⟨v49,v50⟩,h28,hr⟩:=bs hr
      try dsimp only at hr
      apply TD.cal (wn T) rfl Px (jS h28) rfl rfl rfl
      repeat exact sd T
      refine wa_ T (g:=?_)
      apply TD.sr e_ii v30 (v44,v45) (v49,v50) h25a (wn T) rfl rfl rfl rfl rfl ok88 (by rw[cs88];rfl) rfl rfl rfl rfl rfl
      repeat exact sd T
      refine wa_ T (g:=?_)
      cases hr
      refine⟨rfl,?_⟩
      exact wk_ T [some 0] rfl (.rows .nil rfl rfl)
     ·have T:=an h23 T
      refine wa_ T (g:=?_)
      cases hr
      refine⟨rfl,?_⟩
      exact wk_ T [some 0] rfl (.rows .nil rfl rfl)
    ·intro e h;cases h
    ·try dsimp only
     refine wa_ T (g:=?_)
     cases hr
     refine⟨rfl,?_⟩
     exact wk_ T [some 0] rfl (.rows .nil rfl rfl)
    ·try dsimp only
     exact wk_ T [some 0] rfl (.rows .nil rfl rfl)
   ·have T:=an h16 T
    refine wa_ T (g:=?_)
    cases hr
    refine⟨rfl,?_⟩
    exact wk_ T [some 0] rfl (.rows .nil rfl rfl)
  ·intro e h;cases h
  ·try dsimp only
   refine wa_ T (g:=?_)
   cases hr
   refine⟨.inr rfl,_,(ry T),?_⟩
   exact wr [some 0] rfl (.rows .nil rfl rfl)
  ·try dsimp only
   exact wr [some 0] rfl (.rows .nil rfl rfl)
 rfl
def y84:=an @ag25 <| an @ag69 <| an @cs25 <| an @cs61 <| an @cs69 <| an @cs74 <| an @ok25 <| an @ok69 <| an @ok74 <| an @so92 <| an @st69 <| an @zc61 <| an @zc69 <| @zc74
theorem qJ{v1:(List (Nat×Nat))}{v2:Int}{v3:(List Int)}{v4:Int}{v5:(List (Nat×Nat))}{v6:Int}(hr:jA v1 v2 v3 v4=some (v5,v6)):Spec (lim Try.prog) 15 [.list 1 (v1.map e_c),.agg [.v (.int .i64 v2),.list 1 (v3.map e_i)],.v (.int .i64 v4)] ⟨[.tuple [.lsl 0 0 v5.length,.v (.int .i64 v6)]],[.rows 1 (v5.map e_c)]⟩:=by
 unfold jA at hr
 have T:=an y84 <| an @e_c.eq_1 <| @e_i.eq_1
 apply Spec.fn Try.func15 rfl
 focus (simp[Try.f15]<;>exact rfl)
 focus
  refine wB T (g:=?_)
  obtain⟨v7,h1,hr⟩:=bs hr
  apply TD.cal (wn T) rfl Pi (nR h1) rfl rfl rfl
  repeat exact sd T
  refine wA T (g:=?_)
  obtain⟨⟨v8,v9,v10⟩,h2,hr⟩:=bs hr
  try dsimp only at hr
  apply TD.cal (wn T) rfl Rf (fM h2) rfl rfl rfl
  repeat exact sd T
  refine we_ T (g:=?_)
  obtain⟨v11,h3,hr⟩:=bs hr
  apply TD.cal (wn T) rfl nZ (qE h3) rfl rfl rfl
  repeat exact sd T
  refine wa_ T (g:=?_)
  rcases ifs hr with⟨h4,hr⟩|⟨h4,hr⟩
  ·have T:=an h4 T
   refine wa_ T (g:=?_)
   cases hr
   refine⟨.inr rfl,_,(ry T),?_⟩
   exact wk_ T [none] rfl (.virt .nil)
  ·have T:=an h4 T
   refine wa_ T (g:=?_)
   obtain⟨v12,h5,hr⟩:=bs hr
   apply TD.cal (wn T) rfl Rs (kZ h5) rfl rfl rfl
   repeat exact sd T
   refine wA T (g:=?_)
   obtain⟨v13,h6,hr⟩:=bs hr
   apply TD.cal (wn T) rfl vM (aL h6) rfl rfl rfl
   repeat exact sd T
   refine wa_ T (g:=?_)
   obtain⟨v14,h7,hr⟩:=bs hr
   apply TD.lok (wn T) rfl aCt (wJ h7) (vw T) rfl rfl (by simp[nA,cl,e_i,e_c,e_ii])
   repeat exact sd T
   refine wA T (g:=?_)
   obtain⟨v15,h8,hr⟩:=bs hr
   apply TD.cal (wn T) rfl Wg (kN h8) rfl rfl rfl
   repeat exact sd T
   refine wa_ T (g:=?_)
   obtain⟨⟨v16,v17⟩,h9,hr⟩:=bs hr
   try dsimp only at hr
   apply TO.lok (wn T) rfl Hv (jF h9) (vw T) rfl rfl (by simp[nA,cl,e_i,e_c,e_ii])
   repeat exact sd T
   refine wa_ T (g:=?_)
   rcases ifs hr with⟨h10,hr⟩|⟨h10,hr⟩
   ·have T:=an h10 T
    refine wa_ T (g:=?_)
    cases hr
    refine⟨.inr rfl,_,(ry T),?_⟩
    exact wk_ T [none] rfl (.virt .nil)
   ·have T:=an h10 T
    refine wa_ T (g:=?_)
    apply TO.frz 3 rfl rfl
    repeat exact sd T
    refine wa_ T (g:=?_)
    obtain⟨v18,h11,hr⟩:=bs hr
    apply TO.lok (wn T) rfl Wo (sR h11) (vw T) rfl rfl (by simp[nA,cl,e_i,e_c,e_ii])
    repeat exact sd T
    refine wa_ T (g:=?_)
    obtain⟨⟨v19,v20⟩,h12,hr⟩:=bs hr
    try dsimp only at hr
    apply TO.lok (wn T) rfl Hv (jF h12) (vw T) rfl rfl (by simp[nA,cl,e_i,e_c,e_ii])
    repeat exact sd T
    refine wa_ T (g:=?_)
    cases hr
    refine⟨.inr rfl,_,(ry T),?_⟩
    exact wk_ T [some 6] rfl (.rows .nil rfl rfl)
 rfl
end Go.Rex
namespace Go.Rex
open Go.Proofs
open Go Go.Rex Go.RowKit
set_option maxRecDepth 100000
set_option maxHeartbeats 200000
def y85:=@ex75
theorem xJ{v1:Nat}{v2:Nat}{v3:Nat}{v4:Nat}{v5:Bool}(hr:lY v1 v2 v3 v4=some (v5)):Spec (lim Try.prog) 49 [.v (.complex .f64 v1 v2),.v (.complex .f64 v3 v4)] ⟨[.v (.bool v5)],[]⟩:=by
 unfold lY at hr
 have T:=y85
 apply Spec.fn Try.func49 rfl
 focus (simp[Try.f49]<;>exact rfl)
 focus
  refine wa_ T (g:=?_)
  apply TO.pop1 (wn T) (zR rfl)
  repeat exact sd T
  refine wa_ T (g:=?_)
  obtain⟨v6,h1,hr⟩:=bs hr
  apply TO.fb (wn T) rfl ex75 (by simp only[z1,z3,zl]<;>rfl) h1 rfl
  repeat exact sd T
  refine wa_ T (g:=?_)
  apply TO.pop1 (wn T) (zR rfl)
  repeat exact sd T
  refine wa_ T (g:=?_)
  obtain⟨v7,h2,hr⟩:=bs hr
  apply TO.fb (wn T) rfl ex75 (by simp only[z1,z3,zl]<;>rfl) h2 rfl
  repeat exact sd T
  refine wa_ T (g:=?_)
  rcases ifs hr with⟨h3,hr⟩|⟨h3,hr⟩
  ·have T:=an h3 T
   refine wa_ T (g:=?_)
   apply TO.pop1 (wn T) (zL rfl)
   repeat exact sd T
   refine wa_ T (g:=?_)
   obtain⟨v8,h4,hr⟩:=bs hr
   apply TO.fb (wn T) rfl ex75 (by simp only[z1,z3,zl]<;>rfl) h4 rfl
   repeat exact sd T
   refine wa_ T (g:=?_)
   apply TO.pop1 (wn T) (zL rfl)
   repeat exact sd T
   refine wa_ T (g:=?_)
   obtain⟨v9,h5,hr⟩:=bs hr
   apply TO.fb (wn T) rfl ex75 (by simp only[z1,z3,zl]<;>rfl) h5 rfl
   repeat exact sd T
   refine wa_ T (g:=?_)
   cases hr
   refine⟨.inr rfl,_,(ry T),?_⟩
   exact wk_ T [] rfl .nil
  ·have T:=an h3 T
   refine wa_ T (g:=?_)
   cases hr
   refine⟨.inr rfl,_,(ry T),?_⟩
   exact wk_ T [] rfl .nil
 rfl
def y86:=an @ag57 <| an @cs57 <| an @ok57 <| an @so32 <| an @un57 <| an @un91 <| @bF
theorem kM{v1:(List (Nat×Nat))}{v2:(List (Nat×Nat))}{v3:Bool}(hr:bY v1 v2=some (v3)):Spec (lim Try.prog) 16 [.list 1 (v1.map e_c),.list 1 (v2.map e_c)] ⟨[.v (.bool v3)],[]⟩:=by
 unfold bY at hr
 have T:=an y86 <| @e_c.eq_1
 apply Spec.fn Try.func16 rfl
 focus (simp[Try.f16]<;>exact rfl)
 focus
  refine wc_ T (g:=?_)
  rcases ifs hr with⟨h1,hr⟩|⟨h1,hr⟩
  ·have T:=an h1 T
   refine wa_ T (g:=?_)
   cases hr
   refine⟨.inr rfl,_,(ry T),?_⟩
   exact wk_ T [] rfl .nil
  ·have T:=an h1 T
   refine wa_ T (g:=?_)
   obtain⟨v23,h20,hr⟩:=bs hr
   refine TX.loopE (step:=bP v1 v2) (x:=0) h20 (fun v4=>⟨.list 1 (v1.map e_c)::.list 1 (v2.map e_c)::.U::.U::.U::.v (.int .i64 v4)::.U::.U::.U::.U::.U::.U::.U::.U::.U::.U::.U::.U::.U::.U::.U::.U::.U::.U::.U::.U::.U::.U::.U::[],[]⟩) (fun e=>match e with|(.inl _)=>(.ret,⟨.U::.U::.U::.U::.v (.bool false)::.U::.U::.U::.U::.U::.U::.U::.U::.U::.U::.U::.U::.U::.U::.U::.U::.U::.U::.U::.U::.U::.U::.U::.U::[],[]⟩)|(.inr _)=>(.exit 0,⟨.U::.U::.U::.U::.U::.U::.U::.U::.U::.U::.U::.U::.U::.U::.U::.U::.U::.U::.U::.U::.U::.U::.U::.U::.U::.U::.U::.U::.U::[],[]⟩)) ?_ ?_ ?_ ?_
   ·rintro v4 v0 hr
    dsimp only[bP] at hr
    try dsimp only
    refine wc_ T (g:=?_)
    rcases ifs hr with⟨h11,hr⟩|⟨h11,hr⟩
    ·have T:=an h11 T
     refine wa_ T (g:=?_)
     obtain⟨⟨v14,v15⟩,h12,hr⟩:=bs hr
     try dsimp only at hr
     have T:=an (gx e_c h12) T
     refine wA T (g:=?_)
     obtain⟨v16,h13,hr⟩:=bs hr
     obtain⟨v17,h14,hr⟩:=bs hr
     apply TD.pop1 (wn T) (Bw un57 un91 rfl h13 h14)
     repeat exact sd T
     refine wa_ T (g:=?_)
     obtain⟨⟨v18,v19⟩,h15,hr⟩:=bs hr
     try dsimp only at hr
     have T:=an (gx e_c h15) T
     refine wA T (g:=?_)
     obtain⟨v20,h16,hr⟩:=bs hr
     obtain⟨v21,h17,hr⟩:=bs hr
     apply TD.pop1 (wn T) (Bw un57 un91 rfl h16 h17)
     repeat exact sd T
     refine wa_ T (g:=?_)
     obtain⟨v22,h18,hr⟩:=bs hr
     apply TD.cal (wn T) rfl aBA (xJ h18) rfl rfl rfl
     repeat exact sd T
     refine wa_ T (g:=?_)
     apply TD.pop1 (wn T) (dM rfl)
     repeat exact sd T
     refine wa_ T (g:=?_)
     rcases ifs hr with⟨h19,hr⟩|⟨h19,hr⟩
     ·have T:=an h19 T
      refine wa_ T (g:=?_)
      cases hr
      refine⟨rfl,?_⟩
      exact wk_ T [] rfl .nil
     ·have T:=an h19 T
      refine wa_ T (g:=?_)
      cases hr
      refine⟨rfl,?_⟩
      exact wk_ T [] rfl .nil
    ·have T:=an h11 T
     refine wa_ T (g:=?_)
     cases hr
     refine⟨rfl,?_⟩
     exact wk_ T [] rfl .nil
   ·intro e h;rcases e with _|e<;>cases h
   ·try dsimp only
    rcases v23 with _|_
    ·try dsimp only at hr
     try dsimp only
     refine wa_ T (g:=?_)
     cases hr
     refine⟨.inr rfl,_,(ry T),?_⟩
     exact wk_ T [] rfl .nil
    ·try dsimp only at hr
     try dsimp only
     refine wa_ T (g:=?_)
     cases hr
     refine⟨.inr rfl,_,(ry T),?_⟩
     exact wk_ T [] rfl .nil
   ·try dsimp only
    exact wk_ T [] rfl .nil
 rfl
end Go.Rex
namespace Go.Rex
open Go.Proofs
open Go Go.Rex Go.RowKit
set_option maxRecDepth 100000
theorem follows:Try.prog.follows .mixedOrders=true:=by decide +kernel
theorem awake_true:AwT Try.prog 4:=Lj follows (k:=1000) (d:=50) (by decide +kernel)
end Go.Rex
