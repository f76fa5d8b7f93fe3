/- Proofs that the program's functions do what these plain functions say. -/
import Derived.Test.YtneefkifalbplaaGreatGB
import Derived.Test.YtneefkifalbplaaGreatS
import Derived.Test.YtneefkifalbplaaGreatG1
set_option linter.unusedSimpArgs false
set_option linter.unusedVariables false
set_option linter.defProp false
namespace Go.Rex
open Go.Proofs
open Go Go.Rex Go.RowKit
set_option maxRecDepth 100000
set_option maxHeartbeats 1000000
def y50:=an @ag115 <| an @by115 <| an @cs115 <| an @ok115 <| an @so90 <| an @zc115 <| @aV
theorem sP{v1:(List (Int×Int))}{v2:(List Int)}{v3:(List (Int×Int))}(hr:eX v1 v2=some (v3)):Spec (lim Tryz.prog) 46 [.list 2 (v1.map e_ii),.func 47 [] [.fptr true [.func 88 [] [.fptr true [.list 1 (v2.map e_i)] 0]] 0]] ⟨[.lsl 0 0 v3.length],[.rows 2 (v3.map e_ii)]⟩:=by
 unfold eX at hr
 have T:=an y50 <| an @e_i.eq_1 <| @e_ii.eq_1
 apply Spec.fn Tryz.func46 rfl
 focus (simp[Tryz.f46]<;>exact rfl)
 focus
  refine wc_ T (g:=?_)
  obtain⟨v4,h1,hr⟩:=bs hr
  apply TO.mk e_ii h1 (wn T) rfl rfl so90 zc115 by115 rfl rfl rfl
  repeat exact sd T
  refine wc_ T (g:=?_)
  obtain⟨v52,h30,hr⟩:=bs hr
  refine TX.loopE (step:=cV v1 v2 v4) (x:=(v4,0)) h30 (fun (v5,v6)=>⟨.list 2 (v1.map e_ii)::.func 47 [] [.fptr true [.func 88 [] [.fptr true [.list 1 (v2.map e_i)] 0]] 0]::.Z::.Z::.Z::.lsl 0 0 v5.length::.Z::.Z::.Z::.Z::.Z::.Z::.Z::.v (.int .i64 (v4.length:Int))::.v (.int .i64 v6)::.Z::.Z::.Z::.Z::.Z::.Z::.Z::.Z::.Z::.Z::.Z::.Z::.Z::.Z::.Z::.Z::.Z::.Z::.Z::.Z::.Z::.Z::.Z::.Z::.Z::.Z::[],[.rows 2 (v5.map e_ii)]⟩) (fun v29=>(.exit 0,⟨.Z::.Z::.Z::.Z::.Z::.lsl 0 0 v29.length::.Z::.Z::.Z::.Z::.Z::.Z::.Z::.Z::.Z::.Z::.Z::.Z::.Z::.Z::.Z::.Z::.Z::.Z::.Z::.Z::.Z::.Z::.Z::.Z::.Z::.Z::.Z::.Z::.Z::.Z::.Z::.Z::.Z::.Z::.Z::[],[.rows 2 (v29.map e_ii)]⟩)) ?_ ?_ ?_ ?_
  ·rintro⟨v5,v6⟩ v0 hr
   dsimp only[cV] at hr
   try dsimp only
   refine wa_ T (g:=?_)
   rcases ifs hr with⟨h16,hr⟩|⟨h16,hr⟩
   ·have T:=an h16 T
    refine wc_ T (g:=?_)
    obtain⟨v51,h29,hr⟩:=bs hr
    refine TX.loopE (step:=bM v1 v2 v6) (x:=(v5,0)) h29 (fun (v30,v31)=>⟨.list 2 (v1.map e_ii)::.func 47 [] [.fptr true [.func 88 [] [.fptr true [.list 1 (v2.map e_i)] 0]] 0]::.Z::.Z::.Z::.lsl 0 0 v30.length::.v (.int .i64 v6)::.Z::.Z::.Z::.Z::.Z::.Z::.v (.int .i64 (v4.length:Int))::.v (.int .i64 v6)::.Z::.Z::.list 2 (v1.map e_ii)::.v (.int .i64 (v1.length:Int))::.v (.int .i64 v31)::.Z::.Z::.Z::.Z::.Z::.Z::.Z::.Z::.Z::.Z::.Z::.Z::.Z::.Z::.Z::.Z::.Z::.Z::.Z::.Z::.Z::[],[.rows 2 (v30.map e_ii)]⟩) (fun v41=>(.exit 2,⟨.list 2 (v1.map e_ii)::.func 47 [] [.fptr true [.func 88 [] [.fptr true [.list 1 (v2.map e_i)] 0]] 0]::.Z::.Z::.Z::.lsl 0 0 v41.length::.Z::.Z::.Z::.Z::.Z::.Z::.Z::.v (.int .i64 (v4.length:Int))::.v (.int .i64 v6)::.Z::.Z::.Z::.Z::.Z::.Z::.Z::.Z::.Z::.Z::.Z::.Z::.Z::.Z::.Z::.Z::.Z::.Z::.Z::.Z::.Z::.Z::.Z::.Z::.Z::.Z::[],[.rows 2 (v41.map e_ii)]⟩)) ?_ ?_ ?_ ?_
    ·rintro⟨v30,v31⟩ v0 hr
     dsimp only[bM] at hr
     try dsimp only
     refine wa_ T (g:=?_)
     rcases ifs hr with⟨h23,hr⟩|⟨h23,hr⟩
     ·have T:=an h23 T
      refine wa_ T (g:=?_)
      obtain⟨⟨v42,v43⟩,h24,hr⟩:=bs hr
      try dsimp only at hr
      have T:=an (gx e_ii h24) T
      refine wA T (g:=?_)
      obtain⟨⟨v44,v45⟩,h25,hr⟩:=bs hr
      try dsimp only at hr
      have h25m:=gQ (f:=e_ii) h25
      have h25l:=jA h25
      try simp only[List.length_set] at h25l
      have h25a:=jC h25
      have T:=an h25m T
      have T:=an h25l T
      have T:=an h25a T
      refine wA T (g:=?_)
      obtain⟨v46,h26,hr⟩:=bs hr
      apply TD.cal (wn T) rfl aCi (qL h26) rfl rfl rfl
      repeat exact sd T
      refine wa_ T (g:=?_)
      obtain⟨⟨v47,v48⟩,h27,hr⟩:=bs hr
      try dsimp only at hr
      apply TD.cal (wn T) rfl Xx (kV h27) rfl rfl rfl
      repeat exact sd T
      refine wa_ T (g:=?_)
      obtain⟨⟨v49,v50⟩,h28,hr⟩:=bs hr
      try dsimp only at hr
      apply TD.cal (wn T) rfl Lg (gC h28) rfl rfl rfl
      repeat exact sd T
      refine wa_ T (g:=?_)
      apply TD.sr e_ii v30 (v44,v45) (v49,v50) h25a (wn T) rfl rfl rfl rfl rfl ok115 (by rw[cs115];rfl) rfl rfl rfl rfl rfl
      repeat exact sd T
      refine wa_ T (g:=?_)
      cases hr
      refine⟨rfl,?_⟩
      exact wk_ T [some 0] rfl (.rows .nil rfl rfl)
     ·have T:=an h23 T
      refine wa_ T (g:=?_)
      cases hr
      refine⟨rfl,?_⟩
      exact wk_ T [some 0] rfl (.rows .nil rfl rfl)
    ·intro e h;cases h
    ·try dsimp only
     refine wa_ T (g:=?_)
     cases hr
     refine⟨rfl,?_⟩
     exact wk_ T [some 0] rfl (.rows .nil rfl rfl)
    ·try dsimp only
     exact wk_ T [some 0] rfl (.rows .nil rfl rfl)
   ·have T:=an h16 T
    refine wa_ T (g:=?_)
    cases hr
    refine⟨rfl,?_⟩
    exact wk_ T [some 0] rfl (.rows .nil rfl rfl)
  ·intro e h;cases h
  ·try dsimp only
   refine wa_ T (g:=?_)
   cases hr
   refine⟨.inr rfl,_,(ry T),?_⟩
   exact wr [some 0] rfl (.rows .nil rfl rfl)
  ·try dsimp only
   exact wr [some 0] rfl (.rows .nil rfl rfl)
 rfl
def y51:=an @ag26 <| an @ag84 <| an @cs26 <| an @cs84 <| an @cs87 <| an @cs94 <| an @ok26 <| an @ok84 <| an @ok94 <| an @so131 <| an @st84 <| an @zc84 <| an @zc87 <| @zc94
theorem yE{v1:(List (Nat×Nat))}{v2:Int}{v3:(List Int)}{v4:Int}{v5:(List (Nat×Nat))}{v6:Int}(hr:kL v1 v2 v3 v4=some (v5,v6)):Spec (lim Tryz.prog) 12 [.list 1 (v1.map e_c),.agg [.v (.int .i64 v2),.list 1 (v3.map e_i)],.v (.int .i64 v4)] ⟨[.tuple [.lsl 0 0 v5.length,.v (.int .i64 v6)]],[.rows 1 (v5.map e_c)]⟩:=by
 unfold kL at hr
 have T:=an y51 <| an @e_c.eq_1 <| @e_i.eq_1
 apply Spec.fn Tryz.func12 rfl
 focus (simp[Tryz.f12]<;>exact rfl)
 focus
  refine wB T (g:=?_)
  obtain⟨v7,h1,hr⟩:=bs hr
  apply TD.cal (wn T) rfl Hz (kR h1) rfl rfl rfl
  repeat exact sd T
  refine wA T (g:=?_)
  obtain⟨⟨v8,v9,v10⟩,h2,hr⟩:=bs hr
  try dsimp only at hr
  apply TD.cal (wn T) rfl Xr (jN h2) rfl rfl rfl
  repeat exact sd T
  refine we_ T (g:=?_)
  obtain⟨v11,h3,hr⟩:=bs hr
  apply TD.cal (wn T) rfl oG (qV h3) rfl rfl rfl
  repeat exact sd T
  refine wa_ T (g:=?_)
  rcases ifs hr with⟨h4,hr⟩|⟨h4,hr⟩
  ·have T:=an h4 T
   refine wa_ T (g:=?_)
   cases hr
   refine⟨.inr rfl,_,(ry T),?_⟩
   exact wk_ T [none] rfl (.virt .nil)
  ·have T:=an h4 T
   refine wa_ T (g:=?_)
   obtain⟨v12,h5,hr⟩:=bs hr
   apply TD.cal (wn T) rfl Qw (lJ h5) rfl rfl rfl
   repeat exact sd T
   refine wA T (g:=?_)
   obtain⟨v13,h6,hr⟩:=bs hr
   apply TD.cal (wn T) rfl Aw (aU h6) rfl rfl rfl
   repeat exact sd T
   refine wa_ T (g:=?_)
   obtain⟨v14,h7,hr⟩:=bs hr
   apply TD.lok (wn T) rfl aBo (wU h7) (vw T) rfl rfl (by simp[qQ,cl,e_i,e_c,e_ii])
   repeat exact sd T
   refine wA T (g:=?_)
   obtain⟨v15,h8,hr⟩:=bs hr
   apply TD.cal (wn T) rfl Wd (kQ h8) rfl rfl rfl
   repeat exact sd T
   refine wa_ T (g:=?_)
   obtain⟨⟨v16,v17⟩,h9,hr⟩:=bs hr
   try dsimp only at hr
   apply TO.lok (wn T) rfl Jf (jB h9) (vw T) rfl rfl (by simp[qQ,cl,e_i,e_c,e_ii])
   repeat exact sd T
   refine wa_ T (g:=?_)
   rcases ifs hr with⟨h10,hr⟩|⟨h10,hr⟩
   ·have T:=an h10 T
    refine wa_ T (g:=?_)
    cases hr
    refine⟨.inr rfl,_,(ry T),?_⟩
    exact wk_ T [none] rfl (.virt .nil)
   ·have T:=an h10 T
    refine wa_ T (g:=?_)
    apply TO.frz 3 rfl rfl
    repeat exact sd T
    refine wa_ T (g:=?_)
    obtain⟨v18,h11,hr⟩:=bs hr
    apply TO.lok (wn T) rfl Ze (sP h11) (vw T) rfl rfl (by simp[qQ,cl,e_i,e_c,e_ii])
    repeat exact sd T
    refine wa_ T (g:=?_)
    obtain⟨⟨v19,v20⟩,h12,hr⟩:=bs hr
    try dsimp only at hr
    apply TO.lok (wn T) rfl Jf (jB h12) (vw T) rfl rfl (by simp[qQ,cl,e_i,e_c,e_ii])
    repeat exact sd T
    refine wa_ T (g:=?_)
    cases hr
    refine⟨.inr rfl,_,(ry T),?_⟩
    exact wk_ T [some 6] rfl (.rows .nil rfl rfl)
 rfl
end Go.Rex
namespace Go.Rex
open Go.Proofs
open Go Go.Rex Go.RowKit
set_option maxRecDepth 100000
set_option maxHeartbeats 200000
theorem uQ{v1:Int}{v2:(List (List (Nat×Nat)))}{v3:Int}{v4:(List (List (Nat×Nat)))}(hr:mP v1 v2=some (v3,v4)):Spec (lim Tryz.prog) 68 [.v (.int .i64 v1),.func 69 [] [.fptr true [.list 1 (v2.map e_Lc_)] 0]] ⟨[.func 103 [] [.fptr true [.v (.int .i64 v3)] 0,.fptr true [.func 69 [] [.fptr true [.list 1 (v4.map e_Lc_)] 0]] 0]],[]⟩:=by
 unfold mP at hr
 have T:=@e_Lc_.eq_1
 apply Spec.fn Tryz.func68 rfl
 focus (simp[Tryz.f68]<;>exact rfl)
 focus
  refine wb_ T (g:=?_)
  cases hr
  refine⟨.inr rfl,_,(ry T),?_⟩
  exact wr [] rfl .nil
 rfl
def y52:=an @ag87 <| an @cs87 <| an @ok87 <| an @so131 <| an @aV <| @kZ
theorem qU{v1:(List (Nat×Nat))}{v2:Bool}{v3:Int}{v4:Int}(hr:iC v1 v2 v3=some (v4)):Spec (lim Tryz.prog) 37 [.list 1 [[.func 83 [] [.fptr true [.list 1 (v1.map e_c)] 0]],[.func 91 [] [.fptr true [.v (.bool v2)] 0,.fptr true [.v (.int .i64 v3)] 0]]]] ⟨[.v (.int .i64 v4)],[]⟩:=by
 unfold iC at hr
 have T:=an y52 <| @e_c.eq_1
 apply Spec.fn Tryz.func37 rfl
 focus (simp[Tryz.f37]<;>exact rfl)
 focus
  refine wc_ T (g:=?_)
  refine TX.unroll ?_
  repeat (first|(with_reducible first|refine mv ?_|refine m12 rfl ?_|refine TO.nil ?_)|((with_reducible first|apply TO.bin|apply TO.ia|apply TO.ld|apply TO.asg|apply TO.mv);(repeat (focus (show _=_;first|exact k1 rfl|exact k2 rfl|(simp only[zz,y52,e_c,Nat.reduceAdd,Nat.reduceMul,Nat.reduceLeDiff,Nat.reduceEqDiff,aB,z5,Int.reduceToNat,Int.reduceLE,Int.reduceLT,Int.cast_ofNat_Int,tload,aZ,bA,List.getElem?_map]<;>exact rfl)|exact rfl)));(with_reducible apply TO.here))|((with_reducible apply TX.region);(focus (simp only[zl]<;>exact rfl));(focus rfl);(try dsimp only))|((with_reducible apply TX.cond_true);(focus rfl);(focus (first|rfl|(simp only[z1,zn];done))))|((with_reducible apply TX.cond_false);(focus rfl);(focus (first|rfl|(simp only[z1,zn];done))))|fail)
  obtain⟨v5,h1,hr⟩:=bs hr
  apply TO.cal (wn T) rfl Hu (eR h1) rfl rfl rfl
  repeat exact sd T
  refine wa_ T (g:=?_)
  rcases ifs hr with⟨h2,hr⟩|⟨h2,hr⟩
  ·have T:=an h2 T
   refine wa_ T (g:=?_)
   cases hr
   refine⟨.inr rfl,_,(ry T),?_⟩
   exact wk_ T [] rfl .nil
  ·have T:=an h2 T
   refine wa_ T (g:=?_)
   refine TX.unroll ?_
   repeat (first|(with_reducible first|refine mv ?_|refine m12 rfl ?_|refine TO.nil ?_)|((with_reducible first|apply TO.bin|apply TO.ia|apply TO.ld|apply TO.asg|apply TO.mv);(repeat (focus (show _=_;first|exact k1 rfl|exact k2 rfl|(simp only[zz,y52,e_c,Nat.reduceAdd,Nat.reduceMul,Nat.reduceLeDiff,Nat.reduceEqDiff,aB,z5,Int.reduceToNat,Int.reduceLE,Int.reduceLT,Int.cast_ofNat_Int,tload,aZ,bA,List.getElem?_map,h2]<;>exact rfl)|exact rfl)));(with_reducible apply TO.here))|((with_reducible apply TX.region);(focus (simp only[zl]<;>exact rfl));(focus rfl);(try dsimp only))|((with_reducible apply TX.cond_true);(focus rfl);(focus (first|rfl|(simp only[z1,zn,h2];done))))|((with_reducible apply TX.cond_false);(focus rfl);(focus (first|rfl|(simp only[z1,zn,h2];done))))|fail)
   obtain⟨v6,h3,hr⟩:=bs hr
   apply TO.cal (wn T) rfl mA (aC h3) rfl rfl rfl
   repeat exact sd T
   refine wa_ T (g:=?_)
   rcases ifs hr with⟨h4,hr⟩|⟨h4,hr⟩
   ·have T:=an h4 T
    refine wa_ T (g:=?_)
    cases hr
    refine⟨.inr rfl,_,(ry T),?_⟩
    exact wk_ T [] rfl .nil
   ·have T:=an h4 T
    refine wa_ T (g:=?_)
    refine TX.unroll ?_
    refine wa_ T (g:=?_)
    cases hr
    refine⟨.inr rfl,_,(ry T),?_⟩
    exact wk_ T [] rfl .nil
 rfl
def y53:=an @ag32 <| an @ag61 <| an @cs32 <| an @cs87 <| an @ok32 <| an @so131 <| an @so32 <| an @so61 <| @zc87
theorem pU{v1:Int}{v2:(List (List (Nat×Nat)))}{v3:Int}(hr:gD v1 v2=some (v3)):Spec (lim Tryz.prog) 69 [.v (.int .i64 v1),.fptr true [.list 1 (v2.map e_Lc_)] 0] ⟨[.v (.int .i64 v3)],[]⟩:=by
 unfold gD at hr
 have T:=an y53 <| @e_Lc_.eq_1
 apply Spec.fn Tryz.func69 rfl
 focus (simp[Tryz.f69]<;>exact rfl)
 focus
  refine wA T (g:=?_)
  obtain⟨v4,h1,hr⟩:=bs hr
  have T:=an (gx e_Lc_ h1) T
  refine wA T (g:=?_)
  obtain⟨v5,h2,hr⟩:=bs hr
  apply TD.cal (wn T) rfl Hz (kR h2) rfl rfl rfl
  repeat exact sd T
  refine wC T (g:=?_)
  obtain⟨v6,h3,hr⟩:=bs hr
  have T:=an (gx e_Lc_ h3) T
  refine wC T (g:=?_)
  obtain⟨⟨v7,v8⟩,h4,hr⟩:=bs hr
  try dsimp only at hr
  apply TD.cal (wn T) rfl iU (aE h4) rfl rfl rfl
  repeat exact sd T
  refine we_ T (g:=?_)
  obtain⟨v9,h5,hr⟩:=bs hr
  apply TD.cal (wn T) rfl oG (qU h5) rfl rfl rfl
  repeat exact sd T
  refine wa_ T (g:=?_)
  cases hr
  refine⟨.inr rfl,_,(ry T),?_⟩
  exact wr [] rfl .nil
 rfl
def y54:=an @ag118 <| an @ag3 <| @aV
theorem sF{v1:Int}{v2:(List (List (Nat×Nat)))}{v3:Int}(hr:jV v1 v2=some (v3)):Spec (lim Tryz.prog) 103 [.fptr true [.v (.int .i64 v1)] 0,.fptr true [.func 69 [] [.fptr true [.list 1 (v2.map e_Lc_)] 0]] 0] ⟨[.v (.int .i64 v3)],[]⟩:=by
 unfold jV at hr
 have T:=an y54 <| @e_Lc_.eq_1
 apply Spec.fn Tryz.func103 rfl
 focus (simp[Tryz.f103]<;>exact rfl)
 focus
  refine wA T (g:=?_)
  obtain⟨v8,h7,hr⟩:=bs hr
  refine TX.loopE (step:=cC v1 v2) (x:=0) h7 (fun v4=>⟨.Z::.fptr true [.func 69 [] [.fptr true [.list 1 (v2.map e_Lc_)] 0]] 0::.Z::.Z::.Z::.v (.int .i64 v1)::.v (.int .i64 v4)::.Z::.Z::.Z::.Z::.Z::.Z::.Z::.Z::.Z::[],[]⟩) (fun e=>match e with|(.inl v6)=>(.ret,⟨.Z::.Z::.v (.int .i64 v6)::.Z::.Z::.Z::.Z::.Z::.Z::.Z::.Z::.Z::.Z::.Z::.Z::.Z::[],[]⟩)|(.inr _)=>(.exit 0,⟨.Z::.Z::.Z::.Z::.Z::.Z::.Z::.Z::.Z::.Z::.Z::.Z::.Z::.Z::.Z::.Z::[],[]⟩)) ?_ ?_ ?_ ?_
  ·rintro v4 v0 hr
   dsimp only[cC] at hr
   try dsimp only
   refine wa_ T (g:=?_)
   rcases ifs hr with⟨h4,hr⟩|⟨h4,hr⟩
   ·have T:=an h4 T
    refine wA T (g:=?_)
    obtain⟨v7,h5,hr⟩:=bs hr
    apply TO.cal (wn T) rfl aB1 (pU h5) rfl rfl rfl
    repeat exact sd T
    refine wa_ T (g:=?_)
    rcases ifs hr with⟨h6,hr⟩|⟨h6,hr⟩
    ·have T:=an h6 T
     refine wa_ T (g:=?_)
     cases hr
     refine⟨rfl,?_⟩
     exact wk_ T [] rfl .nil
    ·have T:=an h6 T
     refine wa_ T (g:=?_)
     cases hr
     refine⟨rfl,?_⟩
     exact wk_ T [] rfl .nil
   ·have T:=an h4 T
    refine wa_ T (g:=?_)
    cases hr
    refine⟨rfl,?_⟩
    exact wk_ T [] rfl .nil
  ·intro e h;rcases e with _|e<;>cases h
  ·try dsimp only
   rcases v8 with v9|_
   ·try dsimp only at hr
    try dsimp only
    refine wa_ T (g:=?_)
    cases hr
    refine⟨.inr rfl,_,(ry T),?_⟩
    exact wr [] rfl .nil
   ·try dsimp only at hr
    try dsimp only
    refine wa_ T (g:=?_)
    cases hr
    refine⟨.inr rfl,_,(ry T),?_⟩
    exact wr [] rfl .nil
  ·try dsimp only
   exact wr [] rfl .nil
 rfl
def y55:=an @ag87 <| an @cs87 <| an @ok87 <| an @so131 <| an @aV <| an @kZ <| @sD
theorem qJ{v1:Bool}{v2:Int}{v3:Bool}{v4:Int}{v5:Int}{v6:(List (List (Nat×Nat)))}{v7:Int}(hr:eW v1 v2 v3 v4 v5 v6=some (v7)):Spec (lim Tryz.prog) 37 [.list 1 [[.func 91 [] [.fptr true [.v (.bool v1)] 0,.fptr true [.v (.int .i64 v2)] 0]],[.func 91 [] [.fptr true [.v (.bool v3)] 0,.fptr true [.v (.int .i64 v4)] 0]],[.func 103 [] [.fptr true [.v (.int .i64 v5)] 0,.fptr true [.func 69 [] [.fptr true [.list 1 (v6.map e_Lc_)] 0]] 0]]]] ⟨[.v (.int .i64 v7)],[]⟩:=by
 unfold eW at hr
 have T:=an y55 <| @e_Lc_.eq_1
 apply Spec.fn Tryz.func37 rfl
 focus (simp[Tryz.f37]<;>exact rfl)
 focus
  refine wc_ T (g:=?_)
  refine TX.unroll ?_
  repeat (first|(with_reducible first|refine mv ?_|refine m12 rfl ?_|refine TO.nil ?_)|((with_reducible first|apply TO.bin|apply TO.ia|apply TO.ld|apply TO.asg|apply TO.mv);(repeat (focus (show _=_;first|exact k1 rfl|exact k2 rfl|(simp only[zz,y55,e_Lc_,Nat.reduceAdd,Nat.reduceMul,Nat.reduceLeDiff,Nat.reduceEqDiff,aB,z5,Int.reduceToNat,Int.reduceLE,Int.reduceLT,Int.cast_ofNat_Int,tload,aZ,bA,List.getElem?_map]<;>exact rfl)|exact rfl)));(with_reducible apply TO.here))|((with_reducible apply TX.region);(focus (simp only[zl]<;>exact rfl));(focus rfl);(try dsimp only))|((with_reducible apply TX.cond_true);(focus rfl);(focus (first|rfl|(simp only[z1,zn];done))))|((with_reducible apply TX.cond_false);(focus rfl);(focus (first|rfl|(simp only[z1,zn];done))))|fail)
  obtain⟨v8,h1,hr⟩:=bs hr
  apply TO.cal (wn T) rfl mA (aC h1) rfl rfl rfl
  repeat exact sd T
  refine wa_ T (g:=?_)
  rcases ifs hr with⟨h2,hr⟩|⟨h2,hr⟩
  ·have T:=an h2 T
   refine wa_ T (g:=?_)
   cases hr
   refine⟨.inr rfl,_,(ry T),?_⟩
   exact wk_ T [] rfl .nil
  ·have T:=an h2 T
   refine wa_ T (g:=?_)
   refine TX.unroll ?_
   repeat (first|(with_reducible first|refine mv ?_|refine m12 rfl ?_|refine TO.nil ?_)|((with_reducible first|apply TO.bin|apply TO.ia|apply TO.ld|apply TO.asg|apply TO.mv);(repeat (focus (show _=_;first|exact k1 rfl|exact k2 rfl|(simp only[zz,y55,e_Lc_,Nat.reduceAdd,Nat.reduceMul,Nat.reduceLeDiff,Nat.reduceEqDiff,aB,z5,Int.reduceToNat,Int.reduceLE,Int.reduceLT,Int.cast_ofNat_Int,tload,aZ,bA,List.getElem?_map,h2]<;>exact rfl)|exact rfl)));(with_reducible apply TO.here))|((with_reducible apply TX.region);(focus (simp only[zl]<;>exact rfl));(focus rfl);(try dsimp only))|((with_reducible apply TX.cond_true);(focus rfl);(focus (first|rfl|(simp only[z1,zn,h2];done))))|((with_reducible apply TX.cond_false);(focus rfl);(focus (first|rfl|(simp only[z1,zn,h2];done))))|fail)
   obtain⟨v9,h3,hr⟩:=bs hr
   apply TO.cal (wn T) rfl mA (aC h3) rfl rfl rfl
   repeat exact sd T
   refine wa_ T (g:=?_)
   rcases ifs hr with⟨h4,hr⟩|⟨h4,hr⟩
   ·have T:=an h4 T
    refine wa_ T (g:=?_)
    cases hr
    refine⟨.inr rfl,_,(ry T),?_⟩
    exact wk_ T [] rfl .nil
   ·have T:=an h4 T
    refine wa_ T (g:=?_)
    refine TX.unroll ?_
    repeat (first|(with_reducible first|refine mv ?_|refine m12 rfl ?_|refine TO.nil ?_)|((with_reducible first|apply TO.bin|apply TO.ia|apply TO.ld|apply TO.asg|apply TO.mv);(repeat (focus (show _=_;first|exact k1 rfl|exact k2 rfl|(simp only[zz,y55,e_Lc_,Nat.reduceAdd,Nat.reduceMul,Nat.reduceLeDiff,Nat.reduceEqDiff,aB,z5,Int.reduceToNat,Int.reduceLE,Int.reduceLT,Int.cast_ofNat_Int,tload,aZ,bA,List.getElem?_map,h2,h4]<;>exact rfl)|exact rfl)));(with_reducible apply TO.here))|((with_reducible apply TX.region);(focus (simp only[zl]<;>exact rfl));(focus rfl);(try dsimp only))|((with_reducible apply TX.cond_true);(focus rfl);(focus (first|rfl|(simp only[z1,zn,h2,h4];done))))|((with_reducible apply TX.cond_false);(focus rfl);(focus (first|rfl|(simp only[z1,zn,h2,h4];done))))|fail)
    obtain⟨v10,h5,hr⟩:=bs hr
    apply TO.cal (wn T) rfl yN (sF h5) rfl rfl rfl
    repeat exact sd T
    refine wa_ T (g:=?_)
    rcases ifs hr with⟨h6,hr⟩|⟨h6,hr⟩
    ·have T:=an h6 T
     refine wa_ T (g:=?_)
     cases hr
     refine⟨.inr rfl,_,(ry T),?_⟩
     exact wk_ T [] rfl .nil
    ·have T:=an h6 T
     refine wa_ T (g:=?_)
     refine TX.unroll ?_
     refine wa_ T (g:=?_)
     cases hr
     refine⟨.inr rfl,_,(ry T),?_⟩
     exact wk_ T [] rfl .nil
 rfl
theorem Ae{v1:Int}{v2:Int}{v3:Int}(hr:pE v1 v2=some (v3)):Spec (lim Tryz.prog) 104 [.v (.int .i64 v1),.v (.int .i64 v2)] ⟨[.v (.int .i64 v3)],[]⟩:=by
 unfold pE at hr
 have T:=trivial
 apply Spec.fn Tryz.func104 rfl
 focus (simp[Tryz.f104]<;>exact rfl)
 focus
  refine wa_ T (g:=?_)
  obtain⟨v4,h1,hr⟩:=bs hr
  apply TO.cal (wn T) rfl Yf (rH h1) rfl rfl rfl
  repeat exact sd T
  refine wa_ T (g:=?_)
  by_cases h2:v2=0
  ·rw[if_pos h2] at hr
   cases hr
  ·rw[if_neg h2] at hr
   have T:=an h2 T
   refine wa_ T (g:=?_)
   cases hr
   refine⟨.inr rfl,_,(ry T),?_⟩
   exact wr [] rfl .nil
 rfl
theorem qD{v1:Int}{v2:Int}{v3:Int}(hr:iW v1 v2=some (v3)):Spec (lim Tryz.prog) 72 [.v (.int .i64 v1),.v (.int .i64 v2)] ⟨[.v (.int .i64 v3)],[]⟩:=by
 unfold iW at hr
 have T:=trivial
 apply Spec.fn Tryz.func72 rfl
 focus (simp[Tryz.f72]<;>exact rfl)
 focus
  refine wa_ T (g:=?_)
  obtain⟨v4,h1,hr⟩:=bs hr
  apply TO.cal (wn T) rfl aAr (Ae h1) rfl rfl rfl
  repeat exact sd T
  refine wa_ T (g:=?_)
  cases hr
  refine⟨.inr rfl,_,(ry T),?_⟩
  exact wr [] rfl .nil
 rfl
end Go.Rex
namespace Go.Rex
open Go.Proofs
open Go Go.Rex Go.RowKit
set_option maxRecDepth 100000
set_option maxHeartbeats 1000000
def y56:=an @ag115 <| an @ag3 <| an @ag32 <| an @ag59 <| an @ag61 <| an @by115 <| an @cs115 <| an @cs32 <| an @cs59 <| an @cs87 <| an @tW <| an @tQ <| an @ok115 <| an @ok32 <| an @ok59 <| an @so131 <| an @so32 <| an @so61 <| an @so90 <| an @st115 <| an @zc115 <| an @zc87 <| @aV
theorem wW{v1:(List (List (Nat×Nat)))}{v2:(List (Nat×Nat))}{v3:Int}(hr:jK v1=some (v2,v3)):Spec (lim Tryz.prog) 26 [.list 1 (v1.map e_Lc_)] ⟨[.tuple [.lsl 0 0 v2.length,.v (.int .i64 v3)]],[.rows 1 (v2.map e_c)]⟩:=by
 unfold jK at hr
 have T:=an y56 <| an @e_Lc_.eq_1 <| an @e_c.eq_1 <| @e_ii.eq_1
 apply Spec.fn Tryz.func26 rfl
 focus (simp[Tryz.f26]<;>exact rfl)
 focus
  refine wD T (g:=?_)
  obtain⟨⟨v4,v5⟩,h1,hr⟩:=bs hr
  try dsimp only at hr
  apply TD.cal (wn T) rfl iU (aE h1) rfl rfl rfl
  repeat exact sd T
  refine wC T (g:=?_)
  obtain⟨⟨v6,v7⟩,h2,hr⟩:=bs hr
  try dsimp only at hr
  apply TD.cal (wn T) rfl iU (aE h2) rfl rfl rfl
  repeat exact sd T
  refine wC T (g:=?_)
  obtain⟨⟨v8,v9⟩,h3,hr⟩:=bs hr
  try dsimp only at hr
  apply TD.cal (wn T) rfl Ef (uQ h3) rfl rfl rfl
  repeat exact sd T
  refine we_ T (g:=?_)
  obtain⟨v10,h4,hr⟩:=bs hr
  apply TD.cal (wn T) rfl oG (qJ h4) rfl rfl rfl
  repeat exact sd T
  refine wa_ T (g:=?_)
  rcases ifs hr with⟨h5,hr⟩|⟨h5,hr⟩
  ·have T:=an h5 T
   refine wa_ T (g:=?_)
   cases hr
   refine⟨.inr rfl,_,(ry T),?_⟩
   exact wk_ T [none] rfl (.virt .nil)
  ·have T:=an h5 T
   refine wA T (g:=?_)
   obtain⟨v11,h6,hr⟩:=bs hr
   have T:=an (gx e_Lc_ h6) T
   refine wC T (g:=?_)
   obtain⟨v12,h7,hr⟩:=bs hr
   apply TO.mk e_ii h7 (wn T) rfl rfl so90 zc115 by115 rfl rfl rfl
   repeat exact sd T
   refine wc_ T (g:=?_)
   obtain⟨v66,h38,hr⟩:=bs hr
   refine TX.loopE (step:=dZ v1 v12) (x:=(v12,0)) h38 (fun (v13,v14)=>⟨.Z::.fptr true [.list 1 (v1.map e_Lc_)] 0::.Z::.Z::.Z::.lsl 0 0 v13.length::.Z::.Z::.Z::.Z::.Z::.Z::.Z::.Z::.Z::.Z::.Z::.Z::.Z::.Z::.Z::.Z::.Z::.Z::.Z::.Z::.Z::.Z::.Z::.Z::.Z::.Z::.Z::.v (.int .i64 (v12.length:Int))::.v (.int .i64 v14)::.Z::.Z::.Z::.Z::.Z::.Z::.Z::.Z::.Z::.Z::.Z::.Z::.Z::.Z::.Z::.Z::.Z::.Z::.Z::.Z::.Z::.Z::.Z::.Z::.Z::.Z::.Z::.Z::.Z::.Z::.Z::.Z::.Z::.Z::.Z::[],[.rows 2 (v13.map e_ii)]⟩) (fun v40=>(.exit 0,⟨.Z::.Z::.Z::.Z::.Z::.lsl 0 0 v40.length::.Z::.Z::.Z::.Z::.Z::.Z::.Z::.Z::.Z::.Z::.Z::.Z::.Z::.Z::.Z::.Z::.Z::.Z::.Z::.Z::.Z::.Z::.Z::.Z::.Z::.Z::.Z::.Z::.Z::.Z::.Z::.Z::.Z::.Z::.Z::.Z::.Z::.Z::.Z::.Z::.Z::.Z::.Z::.Z::.Z::.Z::.Z::.Z::.Z::.Z::.Z::.Z::.Z::.Z::.Z::.Z::.Z::.Z::.Z::.Z::.Z::.Z::.Z::.Z::[],[.rows 2 (v40.map e_ii)]⟩)) ?_ ?_ ?_ ?_
   ·rintro⟨v13,v14⟩ v0 hr
    dsimp only[dZ] at hr
    try dsimp only
    refine wa_ T (g:=?_)
    rcases ifs hr with⟨h23,hr⟩|⟨h23,hr⟩
    ·have T:=an h23 T
     refine wC T (g:=?_)
     obtain⟨⟨v60,v61⟩,h34,hr⟩:=bs hr
     try dsimp only at hr
     refine TX.loopE (step:=eF v1 v14) (x:=(0,0,0)) h34 (fun (v41,v42,v43)=>⟨.Z::.fptr true [.list 1 (v1.map e_Lc_)] 0::.Z::.Z::.Z::.lsl 0 0 v13.length::.v (.int .i64 v14)::.lptr 1 0 0::.Z::.Z::.Z::.Z::.Z::.Z::.Z::.Z::.Z::.Z::.Z::.Z::.Z::.Z::.Z::.Z::.Z::.Z::.Z::.Z::.Z::.Z::.Z::.Z::.Z::.v (.int .i64 (v12.length:Int))::.v (.int .i64 v14)::.Z::.Z::.list 1 (v1.map e_Lc_)::.v (.int .i64 (v1.length:Int))::.v (.int .i64 v43)::.Z::.Z::.Z::.Z::.Z::.Z::.Z::.Z::.Z::.Z::.Z::.Z::.Z::.Z::.Z::.Z::.Z::.Z::.Z::.Z::.Z::.Z::.Z::.Z::.Z::.Z::.Z::.Z::.Z::.Z::[],[.rows 2 (v13.map e_ii),.var [.v (.int .i64 v41),.v (.int .i64 v42)]]⟩) (fun (v51,v52)=>(.exit 2,⟨.Z::.fptr true [.list 1 (v1.map e_Lc_)] 0::.Z::.Z::.Z::.lsl 0 0 v13.length::.v (.int .i64 v14)::.lptr 1 0 0::.Z::.Z::.Z::.Z::.Z::.Z::.Z::.Z::.Z::.Z::.Z::.Z::.Z::.Z::.Z::.Z::.Z::.Z::.Z::.Z::.Z::.Z::.Z::.Z::.Z::.v (.int .i64 (v12.length:Int))::.v (.int .i64 v14)::.Z::.Z::.Z::.Z::.Z::.Z::.Z::.Z::.Z::.Z::.Z::.Z::.Z::.Z::.Z::.Z::.Z::.Z::.Z::.Z::.Z::.Z::.Z::.Z::.Z::.Z::.Z::.Z::.Z::.Z::.Z::.Z::.Z::.Z::.Z::[],[.rows 2 (v13.map e_ii),.var [.v (.int .i64 v51),.v (.int .i64 v52)]]⟩)) ?_ ?_ ?_ ?_
     ·rintro⟨v41,v42,v43⟩ v0 hr
      dsimp only[eF] at hr
      try dsimp only
      refine wa_ T (g:=?_)
      rcases ifs hr with⟨h29,hr⟩|⟨h29,hr⟩
      ·have T:=an h29 T
       refine wa_ T (g:=?_)
       obtain⟨v53,h30,hr⟩:=bs hr
       have T:=an (gx e_Lc_ h30) T
       refine wA T (g:=?_)
       obtain⟨⟨v54,v55⟩,h31,hr⟩:=bs hr
       try dsimp only at hr
       have T:=an (gx e_c h31) T
       refine wA T (g:=?_)
       obtain⟨⟨v56,v57⟩,h32,hr⟩:=bs hr
       try dsimp only at hr
       apply TD.cal (wn T) rfl Rg (lZ h32) rfl rfl rfl
       repeat exact sd T
       refine wa_ T (g:=?_)
       obtain⟨⟨v58,v59⟩,h33,hr⟩:=bs hr
       try dsimp only at hr
       apply TD.cal (wn T) rfl Lg (gC h33) rfl rfl rfl
       repeat exact sd T
       refine wa_ T (g:=?_)
       cases hr
       refine⟨rfl,?_⟩
       exact wk_ T [some 0,some 1] rfl (.rows (rv .nil rfl) rfl rfl)
      ·have T:=an h29 T
       refine wa_ T (g:=?_)
       cases hr
       refine⟨rfl,?_⟩
       exact wk_ T [some 0,some 1] rfl (.rows (rv .nil rfl) rfl rfl)
     ·intro e h;cases h
     ·try dsimp only
      refine wC T (g:=?_)
      obtain⟨v62,h35,hr⟩:=bs hr
      apply TD.cal (wn T) rfl Xi (qD h35) rfl rfl rfl
      repeat exact sd T
      refine wC T (g:=?_)
      obtain⟨v63,h36,hr⟩:=bs hr
      apply TD.cal (wn T) rfl Xi (qD h36) rfl rfl rfl
      repeat exact sd T
      refine wa_ T (g:=?_)
      obtain⟨⟨v64,v65⟩,h37,hr⟩:=bs hr
      try dsimp only at hr
      have h37m:=gQ (f:=e_ii) h37
      have h37l:=jA h37
      try simp only[List.length_set] at h37l
      have h37a:=jC h37
      have T:=an h37m T
      have T:=an h37l T
      have T:=an h37a T
      refine wa_ T (g:=?_)
      apply TD.sr e_ii v13 (v64,v65) (v62,v63) h37a (wn T) rfl rfl rfl rfl rfl ok115 (by rw[cs115];rfl) rfl rfl rfl rfl rfl
      repeat exact sd T
      refine wa_ T (g:=?_)
      cases hr
      refine⟨rfl,?_⟩
      exact wk_ T [some 0] rfl (.rows .nil rfl rfl)
     ·try dsimp only
      exact wk_ T [some 0,some 1] rfl (.rows (rv .nil rfl) rfl rfl)
    ·have T:=an h23 T
     refine wa_ T (g:=?_)
     cases hr
     refine⟨rfl,?_⟩
     exact wk_ T [some 0] rfl (.rows .nil rfl rfl)
   ·intro e h;cases h
   ·try dsimp only
    refine wa_ T (g:=?_)
    obtain⟨⟨v67,v68⟩,h39,hr⟩:=bs hr
    try dsimp only at hr
    apply TO.lok (wn T) rfl Jf (jB h39) (vw T) rfl rfl (by simp[qQ,cl,e_i,e_c,e_ii,e_Lc_])
    repeat exact sd T
    refine wa_ T (g:=?_)
    cases hr
    refine⟨.inr rfl,_,(ry T),?_⟩
    exact wk_ T [some 1] rfl (.rows .nil rfl rfl)
   ·try dsimp only
    exact wk_ T [some 0] rfl (.rows .nil rfl rfl)
 rfl
end Go.Rex
namespace Go.Rex
open Go.Proofs
open Go Go.Rex Go.RowKit
set_option maxRecDepth 100000
set_option maxHeartbeats 200000
def y57:=an @ag3 <| an @ag84 <| an @cs3 <| an @cs84 <| an @ok3 <| an @ok84 <| an @zc3 <| @kZ
theorem pY{v1:Int}{v2:(List Int)}{v3:Int}{v4:Int}(hr:eG v1 v2 v3=some (v4)):Spec (lim Tryz.prog) 114 [.agg [.v (.int .i64 v1),.list 1 (v2.map e_i)],.v (.int .i64 v3)] ⟨[.v (.int .i64 v4)],[]⟩:=by
 unfold eG at hr
 have T:=an y57 <| @e_i.eq_1
 apply Spec.fnM Tryz.func114 rfl
 focus (simp[Tryz.f114]<;>exact rfl)
 focus
  refine wB T (g:=?_)
  obtain⟨v5,h1,hr⟩:=bs hr
  apply TD.cal (wn T) rfl Rx (lV h1) rfl rfl rfl
  repeat exact sd T
  refine wa_ T (g:=?_)
  obtain⟨⟨v6,v7,v8⟩,h2,hr⟩:=bs hr
  try dsimp only at hr
  apply TD.cal (wn T) rfl To (kT h2) rfl rfl rfl
  repeat exact sd T
  refine wa_ T (g:=?_)
  obtain⟨v13,h5,hr⟩:=bs hr
  refine TM.weak (s':=⟨.Z::.Z::.Z::.fptr true [.v (.int .i64 v3)] 0::.Z::.lptr 0 0 0::.Z::.Z::.Z::.Z::.Z::.func 131 [] [.fptr true [.v (.int .i64 v6)] 0,.fptr true [.v (.int .i64 v7),.list 1 (v8.map e_i)] 0]::.Z::.Z::.Z::.Z::.Z::.Z::.Z::[],[.var [.v (.int .i64 1)]]⟩) ?_ ?_
  ·exact wr [some 0] rfl (rv .nil rfl)
  refine TM.range (it:=fun {X}=>aH v6 v7 v8) (enc:=fun a0=>[.v (.int .i64 a0)]) h5 (fun v9=>[.var [.v (.int .i64 v9)]]) (fun v11=>[.var [.v (.int .i64 v11)]]) (fun _=>.exit 0) rfl rfl Rp fZ rfl rfl rfl (fun _=>rfl) (fun _=>.inr ⟨_,rfl⟩) ?_ ?_
  ·rintro v12 v9 r hr
   dsimp only[cR] at hr
   show TX _ _ _ ⟨.Z::.Z::.Z::.fptr true [.v (.int .i64 v3)] 0::.Z::.lptr 0 0 0::.Z::.Z::.Z::.Z::.Z::.func 131 [] [.fptr true [.v (.int .i64 v6)] 0,.fptr true [.v (.int .i64 v7),.list 1 (v8.map e_i)] 0]::.v (.int .i64 v12)::.Z::.Z::.Z::.Z::.Z::.Z::[],[.var [.v (.int .i64 v9)]]⟩ _
   refine wa_ T (g:=?_)
   refine⟨rfl,?_⟩
   repeat (first|(with_reducible first|refine mv ?_|refine m12 rfl ?_|refine TO.nil ?_)|((with_reducible first|apply TO.mv|apply TO.ld|apply TO.bin);(repeat (focus (show _=_;first|exact k1 rfl|exact k2 rfl|(simp only[zz,y57,e_i,Nat.reduceAdd,Nat.reduceMul,Nat.reduceLeDiff,Nat.reduceEqDiff,tload,aZ,bA,List.getElem?_map]<;>exact rfl)|exact rfl)));(with_reducible apply TO.here))|((with_reducible apply TX.region);(focus (simp only[zl]<;>exact rfl));(focus rfl);(try dsimp only))|((with_reducible apply TX.cond_true);(focus rfl);(focus (first|rfl|(simp only[z1,zn];done))))|((with_reducible apply TX.cond_false);(focus rfl);(focus (first|rfl|(simp only[z1,zn];done))))|((with_reducible apply TM.cond_true);(focus rfl);(focus (first|rfl|(simp only[z1,zn];done))))|((with_reducible apply TM.cond_false);(focus rfl);(focus (first|rfl|(simp only[z1,zn];done))))|fail)
   rcases ifs hr with⟨h4,hr⟩|⟨h4,hr⟩
   ·repeat (first|(with_reducible first|refine mv ?_|refine m12 rfl ?_)|((with_reducible apply TX.cond_true);(focus rfl);(focus (first|rfl|(simp only[z1,zn,h4];done))))|((with_reducible apply TX.cond_false);(focus rfl);(focus (first|rfl|(simp only[z1,zn,h4];done))))|((with_reducible apply TM.cond_true);(focus rfl);(focus (first|rfl|(simp only[z1,zn,h4];done))))|((with_reducible apply TM.cond_false);(focus rfl);(focus (first|rfl|(simp only[z1,zn,h4];done))))|fail)
    cases hr
    refine⟨rfl,?_⟩
    have T:=an h4 T
    exact wk_ T [some 0] rfl (rv .nil rfl)
   ·repeat (first|(with_reducible first|refine mv ?_|refine m12 rfl ?_|refine TO.nil ?_)|((with_reducible first|apply TO.ld|apply TO.bin|apply TO.sv);(repeat (focus (show _=_;first|exact k1 rfl|exact k2 rfl|(simp only[zz,y57,e_i,Nat.reduceAdd,Nat.reduceMul,Nat.reduceLeDiff,Nat.reduceEqDiff,tload,aZ,bA,List.getElem?_map,h4]<;>exact rfl)|exact rfl)));(with_reducible apply TO.here))|((with_reducible apply TX.region);(focus (simp only[zl]<;>exact rfl));(focus rfl);(try dsimp only))|((with_reducible apply TX.cond_true);(focus rfl);(focus (first|rfl|(simp only[z1,zn,h4];done))))|((with_reducible apply TX.cond_false);(focus rfl);(focus (first|rfl|(simp only[z1,zn,h4];done))))|((with_reducible apply TM.cond_true);(focus rfl);(focus (first|rfl|(simp only[z1,zn,h4];done))))|((with_reducible apply TM.cond_false);(focus rfl);(focus (first|rfl|(simp only[z1,zn,h4];done))))|fail)
    cases hr
    refine⟨rfl,?_⟩
    have T:=an h4 T
    exact wk_ T [some 0] rfl (rv .nil rfl)
  ·rcases v13 with v14|v15
   ·try dsimp only at hr
    try dsimp only
    refine wA T (g:=?_)
    cases hr
    refine⟨.inr rfl,_,(ry T),?_⟩
    exact wr [] rfl .nil
   ·try dsimp only at hr
    try dsimp only
    refine wA T (g:=?_)
    cases hr
    refine⟨.inr rfl,_,(ry T),?_⟩
    exact wr [] rfl .nil
 rfl
def y58:=an @ag84 <| an @cs84 <| @ok84
theorem oB{v1:Int}{v2:(List Int)}{v3:Bool}(hr:eT v1 v2=some (v3)):Spec (lim Tryz.prog) 79 [.agg [.v (.int .i64 v1),.list 1 (v2.map e_i)]] ⟨[.v (.bool v3)],[]⟩:=by
 unfold eT at hr
 have T:=an y58 <| @e_i.eq_1
 apply Spec.fn Tryz.func79 rfl
 focus (simp[Tryz.f79]<;>exact rfl)
 focus
  refine wB T (g:=?_)
  obtain⟨v4,h1,hr⟩:=bs hr
  apply TD.cal (wn T) rfl aAo (pY h1) rfl rfl rfl
  repeat exact sd T
  refine wA T (g:=?_)
  obtain⟨v5,h2,hr⟩:=bs hr
  apply TD.cal (wn T) rfl Aw (aU h2) rfl rfl rfl
  repeat exact sd T
  refine wa_ T (g:=?_)
  cases hr
  refine⟨.inr rfl,_,(ry T),?_⟩
  exact wr [] rfl .nil
 rfl
def y59:=an @ag84 <| an @cs84 <| @ok84
theorem pH{v1:Int}{v2:(List Int)}{v3:Int}(hr:dQ v1 v2=some (v3)):Spec (lim Tryz.prog) 50 [.agg [.v (.int .i64 v1),.list 1 (v2.map e_i)]] ⟨[.v (.int .i64 v3)],[]⟩:=by
 unfold dQ at hr
 have T:=an y59 <| @e_i.eq_1
 apply Spec.fn Tryz.func50 rfl
 focus (simp[Tryz.f50]<;>exact rfl)
 focus
  refine wB T (g:=?_)
  obtain⟨v4,h1,hr⟩:=bs hr
  apply TO.cal (wn T) rfl aBx (oB h1) rfl rfl rfl
  repeat exact sd T
  refine wa_ T (g:=?_)
  apply TO.pop1 (wn T) (dG rfl)
  repeat exact sd T
  refine wa_ T (g:=?_)
  obtain⟨⟨v5,v6⟩,h2,hr⟩:=bs hr
  try dsimp only at hr
  apply TO.cal (wn T) rfl iU (aE h2) rfl rfl rfl
  repeat exact sd T
  refine wa_ T (g:=?_)
  obtain⟨v7,h3,hr⟩:=bs hr
  apply TO.cal (wn T) rfl mA (aC h3) rfl rfl rfl
  repeat exact sd T
  refine wa_ T (g:=?_)
  cases hr
  refine⟨.inr rfl,_,(ry T),?_⟩
  exact wr [] rfl .nil
 rfl
def y60:=an @ag32 <| an @ag84 <| an @cs84 <| an @ok84 <| @so32
theorem pT{v1:(List (Nat×Nat))}{v2:Int}{v3:(List Int)}{v4:Int}(hr:dY v1 v2 v3=some (v4)):Spec (lim Tryz.prog) 51 [.fptr true [.list 1 (v1.map e_c)] 0,.fptr true [.v (.int .i64 v2),.list 1 (v3.map e_i)] 0] ⟨[.v (.int .i64 v4)],[]⟩:=by
 unfold dY at hr
 have T:=an y60 <| an @e_c.eq_1 <| @e_i.eq_1
 apply Spec.fn Tryz.func51 rfl
 focus (simp[Tryz.f51]<;>exact rfl)
 focus
  refine wC T (g:=?_)
  obtain⟨v5,h1,hr⟩:=bs hr
  apply TD.cal (wn T) rfl Aw (aU h1) rfl rfl rfl
  repeat exact sd T
  refine wa_ T (g:=?_)
  obtain⟨⟨v6,v7⟩,h2,hr⟩:=bs hr
  try dsimp only at hr
  apply TD.cal (wn T) rfl iU (aE h2) rfl rfl rfl
  repeat exact sd T
  refine wa_ T (g:=?_)
  obtain⟨v8,h3,hr⟩:=bs hr
  apply TD.cal (wn T) rfl mA (aC h3) rfl rfl rfl
  repeat exact sd T
  refine wa_ T (g:=?_)
  cases hr
  refine⟨.inr rfl,_,(ry T),?_⟩
  exact wr [] rfl .nil
 rfl
end Go.Rex
namespace Go.Rex
open Go.Proofs
open Go Go.Rex Go.RowKit
set_option maxRecDepth 100000
set_option maxHeartbeats 1000000
def y61:=an @ag87 <| an @cs87 <| an @ok87 <| an @so131 <| an @aV <| an @kZ <| an @sD <| an @Mq <| @Wl
theorem qK{v1:(List (Nat×Nat))}{v2:Int}{v3:(List Int)}{v4:Int}{v5:Int}{v6:(List Int)}{v7:Int}{v8:(List Int)}{v9:(List (Nat×Nat))}{v10:Int}{v11:(List Int)}{v12:Int}(hr:hP v1 v2 v3 v4 v5 v6 v7 v8 v9 v10 v11=some (v12)):Spec (lim Tryz.prog) 37 [.list 1 [[.func 83 [] [.fptr true [.list 1 (v1.map e_c)] 0]],[.func 39 [.agg [.v (.int .i64 v2),.list 1 (v3.map e_i)]] []],[.func 87 [] [.fptr true [.v (.int .i64 v4)] 0,.fptr true [.v (.int .i64 v5),.list 1 (v6.map e_i)] 0]],[.func 50 [.agg [.v (.int .i64 v7),.list 1 (v8.map e_i)]] []],[.func 51 [] [.fptr true [.list 1 (v9.map e_c)] 0,.fptr true [.v (.int .i64 v10),.list 1 (v11.map e_i)] 0]]]] ⟨[.v (.int .i64 v12)],[]⟩:=by
 unfold hP at hr
 have T:=an y61 <| an @e_c.eq_1 <| @e_i.eq_1
 apply Spec.fn Tryz.func37 rfl
 focus (simp[Tryz.f37]<;>exact rfl)
 focus
  refine wc_ T (g:=?_)
  refine TX.unroll ?_
  repeat (first|(with_reducible first|refine mv ?_|refine m12 rfl ?_|refine TO.nil ?_)|((with_reducible first|apply TO.bin|apply TO.ia|apply TO.ld|apply TO.asg|apply TO.mv);(repeat (focus (show _=_;first|exact k1 rfl|exact k2 rfl|(simp only[zz,y61,e_c,e_i,Nat.reduceAdd,Nat.reduceMul,Nat.reduceLeDiff,Nat.reduceEqDiff,aB,z5,Int.reduceToNat,Int.reduceLE,Int.reduceLT,Int.cast_ofNat_Int,tload,aZ,bA,List.getElem?_map]<;>exact rfl)|exact rfl)));(with_reducible apply TO.here))|((with_reducible apply TX.region);(focus (simp only[zl]<;>exact rfl));(focus rfl);(try dsimp only))|((with_reducible apply TX.cond_true);(focus rfl);(focus (first|rfl|(simp only[z1,zn];done))))|((with_reducible apply TX.cond_false);(focus rfl);(focus (first|rfl|(simp only[z1,zn];done))))|fail)
  obtain⟨v13,h1,hr⟩:=bs hr
  apply TO.cal (wn T) rfl Hu (eR h1) rfl rfl rfl
  repeat exact sd T
  refine wa_ T (g:=?_)
  rcases ifs hr with⟨h2,hr⟩|⟨h2,hr⟩
  ·have T:=an h2 T
   refine wa_ T (g:=?_)
   cases hr
   refine⟨.inr rfl,_,(ry T),?_⟩
   exact wk_ T [] rfl .nil
  ·have T:=an h2 T
   refine wa_ T (g:=?_)
   refine TX.unroll ?_
   repeat (first|(with_reducible first|refine mv ?_|refine m12 rfl ?_|refine TO.nil ?_)|((with_reducible first|apply TO.bin|apply TO.ia|apply TO.ld|apply TO.asg|apply TO.mv);(repeat (focus (show _=_;first|exact k1 rfl|exact k2 rfl|(simp only[zz,y61,e_c,e_i,Nat.reduceAdd,Nat.reduceMul,Nat.reduceLeDiff,Nat.reduceEqDiff,aB,z5,Int.reduceToNat,Int.reduceLE,Int.reduceLT,Int.cast_ofNat_Int,tload,aZ,bA,List.getElem?_map,h2]<;>exact rfl)|exact rfl)));(with_reducible apply TO.here))|((with_reducible apply TX.region);(focus (simp only[zl]<;>exact rfl));(focus rfl);(try dsimp only))|((with_reducible apply TX.cond_true);(focus rfl);(focus (first|rfl|(simp only[z1,zn,h2];done))))|((with_reducible apply TX.cond_false);(focus rfl);(focus (first|rfl|(simp only[z1,zn,h2];done))))|fail)
   obtain⟨v14,h3,hr⟩:=bs hr
   apply TO.cal (wn T) rfl Xu (lA h3) rfl rfl rfl
   repeat exact sd T
   refine wa_ T (g:=?_)
   rcases ifs hr with⟨h4,hr⟩|⟨h4,hr⟩
   ·have T:=an h4 T
    refine wa_ T (g:=?_)
    cases hr
    refine⟨.inr rfl,_,(ry T),?_⟩
    exact wk_ T [] rfl .nil
   ·have T:=an h4 T
    refine wa_ T (g:=?_)
    refine TX.unroll ?_
    repeat (first|(with_reducible first|refine mv ?_|refine m12 rfl ?_|refine TO.nil ?_)|((with_reducible first|apply TO.bin|apply TO.ia|apply TO.ld|apply TO.asg|apply TO.mv);(repeat (focus (show _=_;first|exact k1 rfl|exact k2 rfl|(simp only[zz,y61,e_c,e_i,Nat.reduceAdd,Nat.reduceMul,Nat.reduceLeDiff,Nat.reduceEqDiff,aB,z5,Int.reduceToNat,Int.reduceLE,Int.reduceLT,Int.cast_ofNat_Int,tload,aZ,bA,List.getElem?_map,h2,h4]<;>exact rfl)|exact rfl)));(with_reducible apply TO.here))|((with_reducible apply TX.region);(focus (simp only[zl]<;>exact rfl));(focus rfl);(try dsimp only))|((with_reducible apply TX.cond_true);(focus rfl);(focus (first|rfl|(simp only[z1,zn,h2,h4];done))))|((with_reducible apply TX.cond_false);(focus rfl);(focus (first|rfl|(simp only[z1,zn,h2,h4];done))))|fail)
    obtain⟨v15,h5,hr⟩:=bs hr
    apply TO.cal (wn T) rfl Xa (fP h5) rfl rfl rfl
    repeat exact sd T
    refine wa_ T (g:=?_)
    rcases ifs hr with⟨h6,hr⟩|⟨h6,hr⟩
    ·have T:=an h6 T
     refine wa_ T (g:=?_)
     cases hr
     refine⟨.inr rfl,_,(ry T),?_⟩
     exact wk_ T [] rfl .nil
    ·have T:=an h6 T
     refine wa_ T (g:=?_)
     refine TX.unroll ?_
     repeat (first|(with_reducible first|refine mv ?_|refine m12 rfl ?_|refine TO.nil ?_)|((with_reducible first|apply TO.bin|apply TO.ia|apply TO.ld|apply TO.asg|apply TO.mv);(repeat (focus (show _=_;first|exact k1 rfl|exact k2 rfl|(simp only[zz,y61,e_c,e_i,Nat.reduceAdd,Nat.reduceMul,Nat.reduceLeDiff,Nat.reduceEqDiff,aB,z5,Int.reduceToNat,Int.reduceLE,Int.reduceLT,Int.cast_ofNat_Int,tload,aZ,bA,List.getElem?_map,h2,h4,h6]<;>exact rfl)|exact rfl)));(with_reducible apply TO.here))|((with_reducible apply TX.region);(focus (simp only[zl]<;>exact rfl));(focus rfl);(try dsimp only))|((with_reducible apply TX.cond_true);(focus rfl);(focus (first|rfl|(simp only[z1,zn,h2,h4,h6];done))))|((with_reducible apply TX.cond_false);(focus rfl);(focus (first|rfl|(simp only[z1,zn,h2,h4,h6];done))))|fail)
     obtain⟨v16,h7,hr⟩:=bs hr
     apply TO.cal (wn T) rfl aCb (pH h7) rfl rfl rfl
     repeat exact sd T
     refine wa_ T (g:=?_)
     rcases ifs hr with⟨h8,hr⟩|⟨h8,hr⟩
     ·have T:=an h8 T
      refine wa_ T (g:=?_)
      cases hr
      refine⟨.inr rfl,_,(ry T),?_⟩
      exact wk_ T [] rfl .nil
     ·have T:=an h8 T
      refine wa_ T (g:=?_)
      refine TX.unroll ?_
      repeat (first|(with_reducible first|refine mv ?_|refine m12 rfl ?_|refine TO.nil ?_)|((with_reducible first|apply TO.bin|apply TO.ia|apply TO.ld|apply TO.asg|apply TO.mv);(repeat (focus (show _=_;first|exact k1 rfl|exact k2 rfl|(simp only[zz,y61,e_c,e_i,Nat.reduceAdd,Nat.reduceMul,Nat.reduceLeDiff,Nat.reduceEqDiff,aB,z5,Int.reduceToNat,Int.reduceLE,Int.reduceLT,Int.cast_ofNat_Int,tload,aZ,bA,List.getElem?_map,h2,h4,h6,h8]<;>exact rfl)|exact rfl)));(with_reducible apply TO.here))|((with_reducible apply TX.region);(focus (simp only[zl]<;>exact rfl));(focus rfl);(try dsimp only))|((with_reducible apply TX.cond_true);(focus rfl);(focus (first|rfl|(simp only[z1,zn,h2,h4,h6,h8];done))))|((with_reducible apply TX.cond_false);(focus rfl);(focus (first|rfl|(simp only[z1,zn,h2,h4,h6,h8];done))))|fail)
      obtain⟨v17,h9,hr⟩:=bs hr
      apply TO.cal (wn T) rfl aBJ (pT h9) rfl rfl rfl
      repeat exact sd T
      refine wa_ T (g:=?_)
      rcases ifs hr with⟨h10,hr⟩|⟨h10,hr⟩
      ·have T:=an h10 T
       refine wa_ T (g:=?_)
       cases hr
       refine⟨.inr rfl,_,(ry T),?_⟩
       exact wk_ T [] rfl .nil
      ·have T:=an h10 T
       refine wa_ T (g:=?_)
       refine TX.unroll ?_
       refine wa_ T (g:=?_)
       cases hr
       refine⟨.inr rfl,_,(ry T),?_⟩
       exact wk_ T [] rfl .nil
 rfl
end Go.Rex
namespace Go.Rex
open Go.Proofs
open Go Go.Rex Go.RowKit
set_option maxRecDepth 100000
set_option maxHeartbeats 200000
def y62:=@ag94
theorem pR{v1:Int}{v2:Int}{v3:(List Int)}{v4:Int}(hr:eD v1 v2 v3=some (v4)):Spec (lim Tryz.prog) 53 [.v (.int .i64 v1),.v (.int .i64 v2),.fptr true [.func 88 [] [.fptr true [.list 1 (v3.map e_i)] 0]] 0] ⟨[.v (.int .i64 v4)],[]⟩:=by
 unfold eD at hr
 have T:=an y62 <| @e_i.eq_1
 apply Spec.fn Tryz.func53 rfl
 focus (simp[Tryz.f53]<;>exact rfl)
 focus
  refine wA T (g:=?_)
  obtain⟨v5,h1,hr⟩:=bs hr
  apply TO.cal (wn T) rfl Yq (gH h1) rfl rfl rfl
  repeat exact sd T
  refine wa_ T (g:=?_)
  cases hr
  refine⟨.inr rfl,_,(ry T),?_⟩
  exact wr [] rfl .nil
 rfl
end Go.Rex
namespace Go.Rex
open Go.Proofs
open Go Go.Rex Go.RowKit
set_option maxRecDepth 100000
set_option maxHeartbeats 1000000
def y63:=an @ag115 <| an @by115 <| an @cs115 <| an @ok115 <| an @so90 <| an @zc115 <| @aV
theorem sC{v1:(List (Int×Int))}{v2:(List Int)}{v3:(List (Int×Int))}(hr:fA v1 v2=some (v3)):Spec (lim Tryz.prog) 46 [.list 2 (v1.map e_ii),.func 53 [] [.fptr true [.func 88 [] [.fptr true [.list 1 (v2.map e_i)] 0]] 0]] ⟨[.lsl 0 0 v3.length],[.rows 2 (v3.map e_ii)]⟩:=by
 unfold fA at hr
 have T:=an y63 <| an @e_i.eq_1 <| @e_ii.eq_1
 apply Spec.fn Tryz.func46 rfl
 focus (simp[Tryz.f46]<;>exact rfl)
 focus
  refine wc_ T (g:=?_)
  obtain⟨v4,h1,hr⟩:=bs hr
  apply TO.mk e_ii h1 (wn T) rfl rfl so90 zc115 by115 rfl rfl rfl
  repeat exact sd T
  refine wc_ T (g:=?_)
  obtain⟨v52,h30,hr⟩:=bs hr
  refine TX.loopE (step:=cY v1 v2 v4) (x:=(v4,0)) h30 (fun (v5,v6)=>⟨.list 2 (v1.map e_ii)::.func 53 [] [.fptr true [.func 88 [] [.fptr true [.list 1 (v2.map e_i)] 0]] 0]::.Z::.Z::.Z::.lsl 0 0 v5.length::.Z::.Z::.Z::.Z::.Z::.Z::.Z::.v (.int .i64 (v4.length:Int))::.v (.int .i64 v6)::.Z::.Z::.Z::.Z::.Z::.Z::.Z::.Z::.Z::.Z::.Z::.Z::.Z::.Z::.Z::.Z::.Z::.Z::.Z::.Z::.Z::.Z::.Z::.Z::.Z::.Z::[],[.rows 2 (v5.map e_ii)]⟩) (fun v29=>(.exit 0,⟨.Z::.Z::.Z::.Z::.Z::.lsl 0 0 v29.length::.Z::.Z::.Z::.Z::.Z::.Z::.Z::.Z::.Z::.Z::.Z::.Z::.Z::.Z::.Z::.Z::.Z::.Z::.Z::.Z::.Z::.Z::.Z::.Z::.Z::.Z::.Z::.Z::.Z::.Z::.Z::.Z::.Z::.Z::.Z::[],[.rows 2 (v29.map e_ii)]⟩)) ?_ ?_ ?_ ?_
  ·rintro⟨v5,v6⟩ v0 hr
   dsimp only[cY] at hr
   try dsimp only
   refine wa_ T (g:=?_)
   rcases ifs hr with⟨h16,hr⟩|⟨h16,hr⟩
   ·have T:=an h16 T
    refine wc_ T (g:=?_)
    obtain⟨v51,h29,hr⟩:=bs hr
    refine TX.loopE (step:=bK v1 v2 v6) (x:=(v5,0)) h29 (fun (v30,v31)=>⟨.list 2 (v1.map e_ii)::.func 53 [] [.fptr true [.func 88 [] [.fptr true [.list 1 (v2.map e_i)] 0]] 0]::.Z::.Z::.Z::.lsl 0 0 v30.length::.v (.int .i64 v6)::.Z::.Z::.Z::.Z::.Z::.Z::.v (.int .i64 (v4.length:Int))::.v (.int .i64 v6)::.Z::.Z::.list 2 (v1.map e_ii)::.v (.int .i64 (v1.length:Int))::.v (.int .i64 v31)::.Z::.Z::.Z::.Z::.Z::.Z::.Z::.Z::.Z::.Z::.Z::.Z::.Z::.Z::.Z::.Z::.Z::.Z::.Z::.Z::.Z::[],[.rows 2 (v30.map e_ii)]⟩) (fun v41=>(.exit 2,⟨.list 2 (v1.map e_ii)::.func 53 [] [.fptr true [.func 88 [] [.fptr true [.list 1 (v2.map e_i)] 0]] 0]::.Z::.Z::.Z::.lsl 0 0 v41.length::.Z::.Z::.Z::.Z::.Z::.Z::.Z::.v (.int .i64 (v4.length:Int))::.v (.int .i64 v6)::.Z::.Z::.Z::.Z::.Z::.Z::.Z::.Z::.Z::.Z::.Z::.Z::.Z::.Z::.Z::.Z::.Z::.Z::.Z::.Z::.Z::.Z::.Z::.Z::.Z::.Z::[],[.rows 2 (v41.map e_ii)]⟩)) ?_ ?_ ?_ ?_
    ·rintro⟨v30,v31⟩ v0 hr
     dsimp only[bK] at hr
     try dsimp only
     refine wa_ T (g:=?_)
     rcases ifs hr with⟨h23,hr⟩|⟨h23,hr⟩
     ·have T:=an h23 T
      refine wa_ T (g:=?_)
      obtain⟨⟨v42,v43⟩,h24,hr⟩:=bs hr
      try dsimp only at hr
      have T:=an (gx e_ii h24) T
      refine wA T (g:=?_)
      obtain⟨⟨v44,v45⟩,h25,hr⟩:=bs hr
      try dsimp only at hr
      have h25m:=gQ (f:=e_ii) h25
      have h25l:=jA h25
      try simp only[List.length_set] at h25l
      have h25a:=jC h25
      have T:=an h25m T
      have T:=an h25l T
      have T:=an h25a T
      refine wA T (g:=?_)
      obtain⟨v46,h26,hr⟩:=bs hr
      apply TD.cal (wn T) rfl aBm (pR h26) rfl rfl rfl
      repeat exact sd T
      refine wa_ T (g:=?_)
      obtain⟨⟨v47,v48⟩,h27,hr⟩:=bs hr
      try dsimp only at hr
      apply TD.cal (wn T) rfl Xx (kV h27) rfl rfl rfl
      repeat exact sd T
      refine wa_ T (g:=?_)
      obtain⟨⟨v49,v50⟩,h28,hr⟩:=bs hr
      try dsimp only at hr
      apply TD.cal (wn T) rfl Lg (gC h28) rfl rfl rfl
      repeat exact sd T
      refine wa_ T (g:=?_)
      apply TD.sr e_ii v30 (v44,v45) (v49,v50) h25a (wn T) rfl rfl rfl rfl rfl ok115 (by rw[cs115];rfl) rfl rfl rfl rfl rfl
      repeat exact sd T
      refine wa_ T (g:=?_)
      cases hr
      refine⟨rfl,?_⟩
      exact wk_ T [some 0] rfl (.rows .nil rfl rfl)
     ·have T:=an h23 T
      refine wa_ T (g:=?_)
      cases hr
      refine⟨rfl,?_⟩
      exact wk_ T [some 0] rfl (.rows .nil rfl rfl)
    ·intro e h;cases h
    ·try dsimp only
     refine wa_ T (g:=?_)
     cases hr
     refine⟨rfl,?_⟩
     exact wk_ T [some 0] rfl (.rows .nil rfl rfl)
    ·try dsimp only
     exact wk_ T [some 0] rfl (.rows .nil rfl rfl)
   ·have T:=an h16 T
    refine wa_ T (g:=?_)
    cases hr
    refine⟨rfl,?_⟩
    exact wk_ T [some 0] rfl (.rows .nil rfl rfl)
  ·intro e h;cases h
  ·try dsimp only
   refine wa_ T (g:=?_)
   cases hr
   refine⟨.inr rfl,_,(ry T),?_⟩
   exact wr [some 0] rfl (.rows .nil rfl rfl)
  ·try dsimp only
   exact wr [some 0] rfl (.rows .nil rfl rfl)
 rfl
end Go.Rex
namespace Go.Rex
open Go.Proofs
open Go Go.Rex Go.RowKit
set_option maxRecDepth 100000
set_option maxHeartbeats 200000
def y64:=an @ag115 <| an @ag3 <| an @by115 <| an @cs115 <| an @tW <| an @tQ <| an @ni90 <| an @ok115 <| an @so90 <| an @st115 <| an @zc115 <| @aV
theorem yC{v1:(List (Int×Int))}{v2:Int}{v3:(List (Int×Int))}{v4:Bool}(hr:kM v1 v2=some (v3,v4)):Spec (lim Tryz.prog) 54 [.list 2 (v1.map e_ii),.v (.int .i64 v2)] ⟨[.tuple [.lsl 0 0 v3.length,.v (.bool v4)]],[.rows 2 (v3.map e_ii)]⟩:=by
 unfold kM at hr
 have T:=an y64 <| @e_ii.eq_1
 apply Spec.fn Tryz.func54 rfl
 focus (simp[Tryz.f54]<;>exact rfl)
 focus
  refine wc_ T (g:=?_)
  apply TX.vt (α:=(Int×Int)) e_ii 6 2 rfl
  repeat exact sd T
  with_reducible apply TX.here
  refine wa_ T (g:=?_)
  obtain⟨v14,h13,hr⟩:=bs hr
  refine TX.loopE (step:=gJ v1 v2) (x:=(([]:List (Int×Int)),0)) h13 (fun (v5,v6)=>⟨.Z::.v (.int .i64 v2)::.Z::.Z::.Z::.Z::.lsl 0 0 v5.length::.Z::.Z::.list 2 (v1.map e_ii)::.v (.int .i64 (v1.length:Int))::.v (.int .i64 v6)::.Z::.Z::.Z::.Z::.Z::.Z::.Z::.Z::.Z::.Z::.Z::.Z::.Z::.Z::.Z::.Z::.Z::.Z::.Z::.Z::.Z::.Z::.Z::.Z::.Z::.Z::.Z::.Z::.Z::[],[.rows 2 (v5.map e_ii)]⟩) (fun e=>match e with|(.inl _)=>(.ret,⟨.Z::.Z::.Z::.Z::.v (.slice none 0 0)::.v (.bool false)::.Z::.Z::.Z::.Z::.Z::.Z::.Z::.Z::.Z::.Z::.Z::.Z::.Z::.Z::.Z::.Z::.Z::.Z::.Z::.Z::.Z::.Z::.Z::.Z::.Z::.Z::.Z::.Z::.Z::.Z::.Z::.Z::.Z::.Z::.Z::[],[]⟩)|(.inr v10)=>(.exit 0,⟨.Z::.Z::.Z::.Z::.Z::.Z::.lsl 0 0 v10.length::.Z::.Z::.Z::.Z::.Z::.Z::.Z::.Z::.Z::.Z::.Z::.Z::.Z::.Z::.Z::.Z::.Z::.Z::.Z::.Z::.Z::.Z::.Z::.Z::.Z::.Z::.Z::.Z::.Z::.Z::.Z::.Z::.Z::.Z::[],[.rows 2 (v10.map e_ii)]⟩)) ?_ ?_ ?_ ?_
  ·rintro⟨v5,v6⟩ v0 hr
   dsimp only[gJ] at hr
   try dsimp only
   refine wa_ T (g:=?_)
   rcases ifs hr with⟨h7,hr⟩|⟨h7,hr⟩
   ·have T:=an h7 T
    refine wa_ T (g:=?_)
    obtain⟨⟨v11,v12⟩,h8,hr⟩:=bs hr
    try dsimp only at hr
    have h8m:=gQ (f:=e_ii) h8
    have h8l:=jA h8
    try simp only[List.length_set] at h8l
    have h8a:=jC h8
    have T:=an h8m T
    have T:=an h8l T
    have T:=an h8a T
    refine wA T (g:=?_)
    by_cases h9:v2=0
    ·rw[if_pos h9] at hr
     cases hr
    ·rw[if_neg h9] at hr
     have T:=an h9 T
     refine wa_ T (g:=?_)
     rcases ifs hr with⟨h10,hr⟩|⟨h10,hr⟩
     ·have T:=an h10 T
      refine wa_ T (g:=?_)
      cases hr
      refine⟨rfl,?_⟩
      exact wk_ T [] rfl .nil
     ·have T:=an h10 T
      refine wA T (g:=?_)
      rcases ifs hr with⟨h11,hr⟩|⟨h11,hr⟩
      ·have T:=an h11 T
       refine wa_ T (g:=?_)
       cases hr
       refine⟨rfl,?_⟩
       exact wk_ T [] rfl .nil
      ·have T:=an h11 T
       refine wA T (g:=?_)
       apply TD.bm e_ii ([((IntKind.i64.wrap (v11.tdiv v2)),(IntKind.i64.wrap (v12.tdiv v2)))]:List (Int×Int)) (wn T) rfl (by simp only[zz,y64,e_ii,Nat.reduceAdd,Nat.reduceMul,Nat.reduceLeDiff,Nat.reduceEqDiff,tslice,tparts,h7,h8m,h8l,h8a,h9,h10,h11];exact rfl) rfl
       repeat exact sd T
       refine wa_ T (g:=?_)
       obtain⟨v13,h12,hr⟩:=bs hr
       apply TD.ap (f:=e_ii) (xs:=v5) (ys:=([((IntKind.i64.wrap (v11.tdiv v2)),(IntKind.i64.wrap (v12.tdiv v2)))]:List (Int×Int))) (wn T) rfl rfl (by first|rfl|simp only[List.length_set]) rfl rfl so90 ni90 zc115 rfl (by rw[by115];exact h12) (fun _=>⟨rfl,rfl,rfl⟩) rfl
       repeat exact sd T
       refine wa_ T (g:=?_)
       cases hr
       refine⟨rfl,?_⟩
       exact wk_ T [some 0] rfl (.rows .nil rfl rfl)
   ·have T:=an h7 T
    refine wa_ T (g:=?_)
    cases hr
    refine⟨rfl,?_⟩
    exact wk_ T [some 0] rfl (.rows .nil rfl rfl)
  ·intro e h;rcases e with _|e<;>cases h
  ·try dsimp only
   rcases v14 with _|v15
   ·try dsimp only at hr
    try dsimp only
    refine wa_ T (g:=?_)
    cases hr
    refine⟨.inr rfl,_,(ry T),?_⟩
    exact wr [none] rfl (.virt .nil)
   ·try dsimp only at hr
    try dsimp only
    refine wa_ T (g:=?_)
    cases hr
    refine⟨.inr rfl,_,(ry T),?_⟩
    exact wr [some 0] rfl (.rows .nil rfl rfl)
  ·try dsimp only
   exact wr [some 0] rfl (.rows .nil rfl rfl)
 rfl
end Go.Rex
namespace Go.Rex
open Go.Proofs
open Go Go.Rex Go.RowKit
set_option maxRecDepth 100000
set_option maxHeartbeats 1000000
def y65:=an @ag26 <| an @ag32 <| an @ag84 <| an @cs26 <| an @cs84 <| an @cs87 <| an @cs94 <| an @ok26 <| an @ok84 <| an @ok94 <| an @so131 <| an @st84 <| an @zc84 <| an @zc87 <| @zc94
theorem wV{v1:(List (Nat×Nat))}{v2:Int}{v3:(List Int)}{v4:Int}{v5:(List (Nat×Nat))}{v6:Int}(hr:jJ v1 v2 v3 v4=some (v5,v6)):Spec (lim Tryz.prog) 15 [.list 1 (v1.map e_c),.agg [.v (.int .i64 v2),.list 1 (v3.map e_i)],.v (.int .i64 v4)] ⟨[.tuple [.lsl 0 0 v5.length,.v (.int .i64 v6)]],[.rows 1 (v5.map e_c)]⟩:=by
 unfold jJ at hr
 have T:=an y65 <| an @e_c.eq_1 <| @e_i.eq_1
 apply Spec.fn Tryz.func15 rfl
 focus (simp[Tryz.f15]<;>exact rfl)
 focus
  refine wB T (g:=?_)
  obtain⟨v7,h1,hr⟩:=bs hr
  apply TD.cal (wn T) rfl Hz (kR h1) rfl rfl rfl
  repeat exact sd T
  refine wA T (g:=?_)
  obtain⟨⟨v8,v9,v10⟩,h2,hr⟩:=bs hr
  try dsimp only at hr
  apply TD.cal (wn T) rfl Xr (jN h2) rfl rfl rfl
  repeat exact sd T
  refine wA T (g:=?_)
  apply TD.frz 0 rfl rfl
  repeat exact sd T
  refine we_ T (g:=?_)
  obtain⟨v11,h3,hr⟩:=bs hr
  apply TD.cal (wn T) rfl oG (qK h3) rfl rfl rfl
  repeat exact sd T
  refine wa_ T (g:=?_)
  rcases ifs hr with⟨h4,hr⟩|⟨h4,hr⟩
  ·have T:=an h4 T
   refine wa_ T (g:=?_)
   cases hr
   refine⟨.inr rfl,_,(ry T),?_⟩
   exact wk_ T [none] rfl (.virt .nil)
  ·have T:=an h4 T
   refine wA T (g:=?_)
   obtain⟨v12,h5,hr⟩:=bs hr
   apply TO.cal (wn T) rfl Wd (kQ h5) rfl rfl rfl
   repeat exact sd T
   refine wA T (g:=?_)
   obtain⟨v13,h6,hr⟩:=bs hr
   apply TO.cal (wn T) rfl Qw (lJ h6) rfl rfl rfl
   repeat exact sd T
   refine wa_ T (g:=?_)
   apply TO.frz 1 rfl rfl
   repeat exact sd T
   refine wa_ T (g:=?_)
   obtain⟨v14,h7,hr⟩:=bs hr
   apply TO.lok (wn T) rfl Ze (sC h7) (vw T) rfl rfl (by simp[qQ,cl,e_i,e_c,e_ii,e_Lc_])
   repeat exact sd T
   refine wA T (g:=?_)
   obtain⟨v15,h8,hr⟩:=bs hr
   apply TO.cal (wn T) rfl Aw (aU h8) rfl rfl rfl
   repeat exact sd T
   refine wa_ T (g:=?_)
   obtain⟨⟨v16,v17⟩,h9,hr⟩:=bs hr
   try dsimp only at hr
   apply TO.lok (wn T) rfl aBr (yC h9) (vw T) rfl rfl (by simp[qQ,cl,e_i,e_c,e_ii,e_Lc_])
   repeat exact sd T
   refine wa_ T (g:=?_)
   apply TO.pop1 (wn T) (dG rfl)
   repeat exact sd T
   refine wa_ T (g:=?_)
   rcases ifs hr with⟨h10,hr⟩|⟨h10,hr⟩
   ·have T:=an h10 T
    refine wa_ T (g:=?_)
    obtain⟨⟨v18,v19⟩,h11,hr⟩:=bs hr
    try dsimp only at hr
    apply TO.lok (wn T) rfl Jf (jB h11) (vw T) rfl rfl (by simp[qQ,cl,e_i,e_c,e_ii,e_Lc_])
    repeat exact sd T
    refine wa_ T (g:=?_)
    cases hr
    refine⟨.inr rfl,_,(ry T),?_⟩
    exact wk_ T [some 5] rfl (.rows .nil rfl rfl)
   ·have T:=an h10 T
    refine wa_ T (g:=?_)
    cases hr
    refine⟨.inr rfl,_,(ry T),?_⟩
    exact wk_ T [none] rfl (.virt .nil)
 rfl
end Go.Rex
namespace Go.Rex
open Go.Proofs
open Go Go.Rex Go.RowKit
set_option maxRecDepth 100000
set_option maxHeartbeats 200000
def y66:=@ex92
theorem xN{v1:Nat}{v2:Nat}{v3:Nat}{v4:Nat}{v5:Bool}(hr:oP v1 v2 v3 v4=some (v5)):Spec (lim Tryz.prog) 55 [.v (.complex .f64 v1 v2),.v (.complex .f64 v3 v4)] ⟨[.v (.bool v5)],[]⟩:=by
 unfold oP at hr
 have T:=y66
 apply Spec.fn Tryz.func55 rfl
 focus (simp[Tryz.f55]<;>exact rfl)
 focus
  refine wa_ T (g:=?_)
  apply TO.pop1 (wn T) (zH rfl)
  repeat exact sd T
  refine wa_ T (g:=?_)
  obtain⟨v6,h1,hr⟩:=bs hr
  apply TO.fb (wn T) rfl ex92 (by simp only[z1,z3,zl]<;>rfl) h1 rfl
  repeat exact sd T
  refine wa_ T (g:=?_)
  apply TO.pop1 (wn T) (zH rfl)
  repeat exact sd T
  refine wa_ T (g:=?_)
  obtain⟨v7,h2,hr⟩:=bs hr
  apply TO.fb (wn T) rfl ex92 (by simp only[z1,z3,zl]<;>rfl) h2 rfl
  repeat exact sd T
  refine wa_ T (g:=?_)
  rcases ifs hr with⟨h3,hr⟩|⟨h3,hr⟩
  ·have T:=an h3 T
   refine wa_ T (g:=?_)
   apply TO.pop1 (wn T) (zD rfl)
   repeat exact sd T
   refine wa_ T (g:=?_)
   obtain⟨v8,h4,hr⟩:=bs hr
   apply TO.fb (wn T) rfl ex92 (by simp only[z1,z3,zl]<;>rfl) h4 rfl
   repeat exact sd T
   refine wa_ T (g:=?_)
   apply TO.pop1 (wn T) (zD rfl)
   repeat exact sd T
   refine wa_ T (g:=?_)
   obtain⟨v9,h5,hr⟩:=bs hr
   apply TO.fb (wn T) rfl ex92 (by simp only[z1,z3,zl]<;>rfl) h5 rfl
   repeat exact sd T
   refine wa_ T (g:=?_)
   cases hr
   refine⟨.inr rfl,_,(ry T),?_⟩
   exact wk_ T [] rfl .nil
  ·have T:=an h3 T
   refine wa_ T (g:=?_)
   cases hr
   refine⟨.inr rfl,_,(ry T),?_⟩
   exact wk_ T [] rfl .nil
 rfl
def y67:=an @ag59 <| an @cs59 <| an @ok59 <| an @so32 <| an @un105 <| an @un59 <| @aV
theorem uL{v1:(List (Nat×Nat))}{v2:(List (Nat×Nat))}{v3:Bool}(hr:gP v1 v2=some (v3)):Spec (lim Tryz.prog) 16 [.list 1 (v1.map e_c),.list 1 (v2.map e_c)] ⟨[.v (.bool v3)],[]⟩:=by
 unfold gP at hr
 have T:=an y67 <| @e_c.eq_1
 apply Spec.fn Tryz.func16 rfl
 focus (simp[Tryz.f16]<;>exact rfl)
 focus
  refine wc_ T (g:=?_)
  rcases ifs hr with⟨h1,hr⟩|⟨h1,hr⟩
  ·have T:=an h1 T
   refine wa_ T (g:=?_)
   cases hr
   refine⟨.inr rfl,_,(ry T),?_⟩
   exact wk_ T [] rfl .nil
  ·have T:=an h1 T
   refine wa_ T (g:=?_)
   obtain⟨v23,h20,hr⟩:=bs hr
   refine TX.loopE (step:=eM v1 v2) (x:=0) h20 (fun v4=>⟨.list 1 (v1.map e_c)::.list 1 (v2.map e_c)::.Z::.Z::.Z::.v (.int .i64 v4)::.Z::.Z::.Z::.Z::.Z::.Z::.Z::.Z::.Z::.Z::.Z::.Z::.Z::.Z::.Z::.Z::.Z::.Z::.Z::.Z::.Z::.Z::.Z::[],[]⟩) (fun e=>match e with|(.inl _)=>(.ret,⟨.Z::.Z::.Z::.Z::.v (.bool false)::.Z::.Z::.Z::.Z::.Z::.Z::.Z::.Z::.Z::.Z::.Z::.Z::.Z::.Z::.Z::.Z::.Z::.Z::.Z::.Z::.Z::.Z::.Z::.Z::[],[]⟩)|(.inr _)=>(.exit 0,⟨.Z::.Z::.Z::.Z::.Z::.Z::.Z::.Z::.Z::.Z::.Z::.Z::.Z::.Z::.Z::.Z::.Z::.Z::.Z::.Z::.Z::.Z::.Z::.Z::.Z::.Z::.Z::.Z::.Z::[],[]⟩)) ?_ ?_ ?_ ?_
   ·rintro v4 v0 hr
    dsimp only[eM] at hr
    try dsimp only
    refine wc_ T (g:=?_)
    rcases ifs hr with⟨h11,hr⟩|⟨h11,hr⟩
    ·have T:=an h11 T
     refine wa_ T (g:=?_)
     obtain⟨⟨v14,v15⟩,h12,hr⟩:=bs hr
     try dsimp only at hr
     have T:=an (gx e_c h12) T
     refine wA T (g:=?_)
     obtain⟨v16,h13,hr⟩:=bs hr
     obtain⟨v17,h14,hr⟩:=bs hr
     apply TD.pop1 (wn T) (Bm un59 un105 rfl h13 h14)
     repeat exact sd T
     refine wa_ T (g:=?_)
     obtain⟨⟨v18,v19⟩,h15,hr⟩:=bs hr
     try dsimp only at hr
     have T:=an (gx e_c h15) T
     refine wA T (g:=?_)
     obtain⟨v20,h16,hr⟩:=bs hr
     obtain⟨v21,h17,hr⟩:=bs hr
     apply TD.pop1 (wn T) (Bm un59 un105 rfl h16 h17)
     repeat exact sd T
     refine wa_ T (g:=?_)
     obtain⟨v22,h18,hr⟩:=bs hr
     apply TD.cal (wn T) rfl aCp (xN h18) rfl rfl rfl
     repeat exact sd T
     refine wa_ T (g:=?_)
     apply TD.pop1 (wn T) (dG rfl)
     repeat exact sd T
     refine wa_ T (g:=?_)
     rcases ifs hr with⟨h19,hr⟩|⟨h19,hr⟩
     ·have T:=an h19 T
      refine wa_ T (g:=?_)
      cases hr
      refine⟨rfl,?_⟩
      exact wk_ T [] rfl .nil
     ·have T:=an h19 T
      refine wa_ T (g:=?_)
      cases hr
      refine⟨rfl,?_⟩
      exact wk_ T [] rfl .nil
    ·have T:=an h11 T
     refine wa_ T (g:=?_)
     cases hr
     refine⟨rfl,?_⟩
     exact wk_ T [] rfl .nil
   ·intro e h;rcases e with _|e<;>cases h
   ·try dsimp only
    rcases v23 with _|_
    ·try dsimp only at hr
     try dsimp only
     refine wa_ T (g:=?_)
     cases hr
     refine⟨.inr rfl,_,(ry T),?_⟩
     exact wk_ T [] rfl .nil
    ·try dsimp only at hr
     try dsimp only
     refine wa_ T (g:=?_)
     cases hr
     refine⟨.inr rfl,_,(ry T),?_⟩
     exact wk_ T [] rfl .nil
   ·try dsimp only
    exact wk_ T [] rfl .nil
 rfl
theorem uR{v1:Int}{v2:(List (Nat×Nat))}{v3:Int}{v4:(List (Nat×Nat))}(hr:mM v1 v2=some (v3,v4)):Spec (lim Tryz.prog) 68 [.v (.int .i64 v1),.func 73 [] [.fptr true [.list 1 (v2.map e_c)] 0]] ⟨[.func 103 [] [.fptr true [.v (.int .i64 v3)] 0,.fptr true [.func 73 [] [.fptr true [.list 1 (v4.map e_c)] 0]] 0]],[]⟩:=by
 unfold mM at hr
 have T:=@e_c.eq_1
 apply Spec.fn Tryz.func68 rfl
 focus (simp[Tryz.f68]<;>exact rfl)
 focus
  refine wb_ T (g:=?_)
  cases hr
  refine⟨.inr rfl,_,(ry T),?_⟩
  exact wr [] rfl .nil
 rfl
def y68:=an @ag32 <| an @ag59 <| an @cs59 <| an @ok59 <| @so32
theorem sH{v1:Int}{v2:(List (Nat×Nat))}{v3:Int}(hr:jX v1 v2=some (v3)):Spec (lim Tryz.prog) 73 [.v (.int .i64 v1),.fptr true [.list 1 (v2.map e_c)] 0] ⟨[.v (.int .i64 v3)],[]⟩:=by
 unfold jX at hr
 have T:=an y68 <| @e_c.eq_1
 apply Spec.fn Tryz.func73 rfl
 focus (simp[Tryz.f73]<;>exact rfl)
 focus
  refine wA T (g:=?_)
  obtain⟨⟨v4,v5⟩,h1,hr⟩:=bs hr
  try dsimp only at hr
  have T:=an (gx e_c h1) T
  refine wA T (g:=?_)
  obtain⟨⟨v6,v7⟩,h2,hr⟩:=bs hr
  try dsimp only at hr
  apply TO.cal (wn T) rfl Rg (lZ h2) rfl rfl rfl
  repeat exact sd T
  refine wa_ T (g:=?_)
  obtain⟨⟨v8,v9⟩,h3,hr⟩:=bs hr
  try dsimp only at hr
  apply TO.cal (wn T) rfl Yp (mX h3) rfl rfl rfl
  repeat exact sd T
  refine wa_ T (g:=?_)
  obtain⟨v10,h4,hr⟩:=bs hr
  apply TO.cal (wn T) rfl mA (aC h4) rfl rfl rfl
  repeat exact sd T
  refine wa_ T (g:=?_)
  cases hr
  refine⟨.inr rfl,_,(ry T),?_⟩
  exact wr [] rfl .nil
 rfl
def y69:=an @ag118 <| an @ag3 <| @aV
theorem sS{v1:Int}{v2:(List (Nat×Nat))}{v3:Int}(hr:gX v1 v2=some (v3)):Spec (lim Tryz.prog) 103 [.fptr true [.v (.int .i64 v1)] 0,.fptr true [.func 73 [] [.fptr true [.list 1 (v2.map e_c)] 0]] 0] ⟨[.v (.int .i64 v3)],[]⟩:=by
 unfold gX at hr
 have T:=an y69 <| @e_c.eq_1
 apply Spec.fn Tryz.func103 rfl
 focus (simp[Tryz.f103]<;>exact rfl)
 focus
  refine wA T (g:=?_)
  obtain⟨v8,h7,hr⟩:=bs hr
  refine TX.loopE (step:=cZ v1 v2) (x:=0) h7 (fun v4=>⟨.Z::.fptr true [.func 73 [] [.fptr true [.list 1 (v2.map e_c)] 0]] 0::.Z::.Z::.Z::.v (.int .i64 v1)::.v (.int .i64 v4)::.Z::.Z::.Z::.Z::.Z::.Z::.Z::.Z::.Z::[],[]⟩) (fun e=>match e with|(.inl v6)=>(.ret,⟨.Z::.Z::.v (.int .i64 v6)::.Z::.Z::.Z::.Z::.Z::.Z::.Z::.Z::.Z::.Z::.Z::.Z::.Z::[],[]⟩)|(.inr _)=>(.exit 0,⟨.Z::.Z::.Z::.Z::.Z::.Z::.Z::.Z::.Z::.Z::.Z::.Z::.Z::.Z::.Z::.Z::[],[]⟩)) ?_ ?_ ?_ ?_
  ·rintro v4 v0 hr
   dsimp only[cZ] at hr
   try dsimp only
   refine wa_ T (g:=?_)
   rcases ifs hr with⟨h4,hr⟩|⟨h4,hr⟩
   ·have T:=an h4 T
    refine wA T (g:=?_)
    obtain⟨v7,h5,hr⟩:=bs hr
    apply TO.cal (wn T) rfl aCf (sH h5) rfl rfl rfl
    repeat exact sd T
    refine wa_ T (g:=?_)
    rcases ifs hr with⟨h6,hr⟩|⟨h6,hr⟩
    ·have T:=an h6 T
     refine wa_ T (g:=?_)
     cases hr
     refine⟨rfl,?_⟩
     exact wk_ T [] rfl .nil
    ·have T:=an h6 T
     refine wa_ T (g:=?_)
     cases hr
     refine⟨rfl,?_⟩
     exact wk_ T [] rfl .nil
   ·have T:=an h4 T
    refine wa_ T (g:=?_)
    cases hr
    refine⟨rfl,?_⟩
    exact wk_ T [] rfl .nil
  ·intro e h;rcases e with _|e<;>cases h
  ·try dsimp only
   rcases v8 with v9|_
   ·try dsimp only at hr
    try dsimp only
    refine wa_ T (g:=?_)
    cases hr
    refine⟨.inr rfl,_,(ry T),?_⟩
    exact wr [] rfl .nil
   ·try dsimp only at hr
    try dsimp only
    refine wa_ T (g:=?_)
    cases hr
    refine⟨.inr rfl,_,(ry T),?_⟩
    exact wr [] rfl .nil
  ·try dsimp only
   exact wr [] rfl .nil
 rfl
def y70:=an @ag87 <| an @cs87 <| an @ok87 <| an @so131 <| an @aV <| an @kZ <| @sD
theorem qB{v1:(List (Nat×Nat))}{v2:Bool}{v3:Int}{v4:Int}{v5:(List (Nat×Nat))}{v6:Int}(hr:iE v1 v2 v3 v4 v5=some (v6)):Spec (lim Tryz.prog) 37 [.list 1 [[.func 83 [] [.fptr true [.list 1 (v1.map e_c)] 0]],[.func 91 [] [.fptr true [.v (.bool v2)] 0,.fptr true [.v (.int .i64 v3)] 0]],[.func 103 [] [.fptr true [.v (.int .i64 v4)] 0,.fptr true [.func 73 [] [.fptr true [.list 1 (v5.map e_c)] 0]] 0]]]] ⟨[.v (.int .i64 v6)],[]⟩:=by
 unfold iE at hr
 have T:=an y70 <| @e_c.eq_1
 apply Spec.fn Tryz.func37 rfl
 focus (simp[Tryz.f37]<;>exact rfl)
 focus
  refine wc_ T (g:=?_)
  refine TX.unroll ?_
  repeat (first|(with_reducible first|refine mv ?_|refine m12 rfl ?_|refine TO.nil ?_)|((with_reducible first|apply TO.bin|apply TO.ia|apply TO.ld|apply TO.asg|apply TO.mv);(repeat (focus (show _=_;first|exact k1 rfl|exact k2 rfl|(simp only[zz,y70,e_c,Nat.reduceAdd,Nat.reduceMul,Nat.reduceLeDiff,Nat.reduceEqDiff,aB,z5,Int.reduceToNat,Int.reduceLE,Int.reduceLT,Int.cast_ofNat_Int,tload,aZ,bA,List.getElem?_map]<;>exact rfl)|exact rfl)));(with_reducible apply TO.here))|((with_reducible apply TX.region);(focus (simp only[zl]<;>exact rfl));(focus rfl);(try dsimp only))|((with_reducible apply TX.cond_true);(focus rfl);(focus (first|rfl|(simp only[z1,zn];done))))|((with_reducible apply TX.cond_false);(focus rfl);(focus (first|rfl|(simp only[z1,zn];done))))|fail)
  obtain⟨v7,h1,hr⟩:=bs hr
  apply TO.cal (wn T) rfl Hu (eR h1) rfl rfl rfl
  repeat exact sd T
  refine wa_ T (g:=?_)
  rcases ifs hr with⟨h2,hr⟩|⟨h2,hr⟩
  ·have T:=an h2 T
   refine wa_ T (g:=?_)
   cases hr
   refine⟨.inr rfl,_,(ry T),?_⟩
   exact wk_ T [] rfl .nil
  ·have T:=an h2 T
   refine wa_ T (g:=?_)
   refine TX.unroll ?_
   repeat (first|(with_reducible first|refine mv ?_|refine m12 rfl ?_|refine TO.nil ?_)|((with_reducible first|apply TO.bin|apply TO.ia|apply TO.ld|apply TO.asg|apply TO.mv);(repeat (focus (show _=_;first|exact k1 rfl|exact k2 rfl|(simp only[zz,y70,e_c,Nat.reduceAdd,Nat.reduceMul,Nat.reduceLeDiff,Nat.reduceEqDiff,aB,z5,Int.reduceToNat,Int.reduceLE,Int.reduceLT,Int.cast_ofNat_Int,tload,aZ,bA,List.getElem?_map,h2]<;>exact rfl)|exact rfl)));(with_reducible apply TO.here))|((with_reducible apply TX.region);(focus (simp only[zl]<;>exact rfl));(focus rfl);(try dsimp only))|((with_reducible apply TX.cond_true);(focus rfl);(focus (first|rfl|(simp only[z1,zn,h2];done))))|((with_reducible apply TX.cond_false);(focus rfl);(focus (first|rfl|(simp only[z1,zn,h2];done))))|fail)
   obtain⟨v8,h3,hr⟩:=bs hr
   apply TO.cal (wn T) rfl mA (aC h3) rfl rfl rfl
   repeat exact sd T
   refine wa_ T (g:=?_)
   rcases ifs hr with⟨h4,hr⟩|⟨h4,hr⟩
   ·have T:=an h4 T
    refine wa_ T (g:=?_)
    cases hr
    refine⟨.inr rfl,_,(ry T),?_⟩
    exact wk_ T [] rfl .nil
   ·have T:=an h4 T
    refine wa_ T (g:=?_)
    refine TX.unroll ?_
    repeat (first|(with_reducible first|refine mv ?_|refine m12 rfl ?_|refine TO.nil ?_)|((with_reducible first|apply TO.bin|apply TO.ia|apply TO.ld|apply TO.asg|apply TO.mv);(repeat (focus (show _=_;first|exact k1 rfl|exact k2 rfl|(simp only[zz,y70,e_c,Nat.reduceAdd,Nat.reduceMul,Nat.reduceLeDiff,Nat.reduceEqDiff,aB,z5,Int.reduceToNat,Int.reduceLE,Int.reduceLT,Int.cast_ofNat_Int,tload,aZ,bA,List.getElem?_map,h2,h4]<;>exact rfl)|exact rfl)));(with_reducible apply TO.here))|((with_reducible apply TX.region);(focus (simp only[zl]<;>exact rfl));(focus rfl);(try dsimp only))|((with_reducible apply TX.cond_true);(focus rfl);(focus (first|rfl|(simp only[z1,zn,h2,h4];done))))|((with_reducible apply TX.cond_false);(focus rfl);(focus (first|rfl|(simp only[z1,zn,h2,h4];done))))|fail)
    obtain⟨v9,h5,hr⟩:=bs hr
    apply TO.cal (wn T) rfl yN (sS h5) rfl rfl rfl
    repeat exact sd T
    refine wa_ T (g:=?_)
    rcases ifs hr with⟨h6,hr⟩|⟨h6,hr⟩
    ·have T:=an h6 T
     refine wa_ T (g:=?_)
     cases hr
     refine⟨.inr rfl,_,(ry T),?_⟩
     exact wk_ T [] rfl .nil
    ·have T:=an h6 T
     refine wa_ T (g:=?_)
     refine TX.unroll ?_
     refine wa_ T (g:=?_)
     cases hr
     refine⟨.inr rfl,_,(ry T),?_⟩
     exact wk_ T [] rfl .nil
 rfl
end Go.Rex
namespace Go.Rex
open Go.Proofs
open Go Go.Rex Go.RowKit
set_option maxRecDepth 100000
set_option maxHeartbeats 1000000
def y71:=an @ag115 <| an @ag3 <| an @ag32 <| an @ag62 <| an @ag64 <| an @ag65 <| an @ar65 <| an @by36 <| an @cs115 <| an @cs36 <| an @cs62 <| an @cs64 <| an @cs65 <| an @cs87 <| an @tW <| an @tQ <| an @Lm <| an @ni62 <| an @ok115 <| an @ok62 <| an @ok64 <| an @ok65 <| an @so131 <| an @so32 <| an @so62 <| an @so90 <| an @st64 <| an @st65 <| an @un3 <| an @un36 <| an @zc115 <| an @zc36 <| an @zc64 <| an @zc65 <| an @zc87 <| @aV
theorem Cm{v1:(List (Nat×Nat))}{v2:Int}{v3:Int}{v4:(List Nat)}{v5:Int}{v6:(List Nat)}{v7:Int}(hr:oF v1 v2=some (v3,v4,v5,v6,v7)):Spec (lim Tryz.prog) 27 [.list 1 (v1.map e_c),.v (.int .i64 v2)] ⟨[.tuple [.agg [.v (.int .i64 v3),.lsl 0 0 v4.length,.v (.int .i64 v5),.lsl 1 0 v6.length],.v (.int .i64 v7)]],[.rows 1 (v4.map e_f),.rows 1 (v6.map e_f)]⟩:=by
 unfold oF at hr
 have T:=an y71 <| an @e_c.eq_1 <| an @e_f.eq_1 <| @e_ii.eq_1
 apply Spec.fn Tryz.func27 rfl
 focus (simp[Tryz.f27]<;>exact rfl)
 focus
  refine wB T (g:=?_)
  obtain⟨v8,h1,hr⟩:=bs hr
  apply TD.cal (wn T) rfl Hz (kR h1) rfl rfl rfl
  repeat exact sd T
  refine wa_ T (g:=?_)
  obtain⟨⟨v9,v10⟩,h2,hr⟩:=bs hr
  try dsimp only at hr
  apply TD.cal (wn T) rfl Kk (kS h2) rfl rfl rfl
  repeat exact sd T
  refine wC T (g:=?_)
  obtain⟨⟨v11,v12⟩,h3,hr⟩:=bs hr
  try dsimp only at hr
  apply TD.cal (wn T) rfl Ef (uR h3) rfl rfl rfl
  repeat exact sd T
  refine we_ T (g:=?_)
  obtain⟨v13,h4,hr⟩:=bs hr
  apply TD.cal (wn T) rfl oG (qB h4) rfl rfl rfl
  repeat exact sd T
  refine wa_ T (g:=?_)
  rcases ifs hr with⟨h5,hr⟩|⟨h5,hr⟩
  ·have T:=an h5 T
   refine wa_ T (g:=?_)
   cases hr
   refine⟨.inr rfl,_,(ry T),?_⟩
   exact wk_ T [none,none] rfl (.virt (.virt .nil))
  ·have T:=an h5 T
   refine wA T (g:=?_)
   obtain⟨v14,h6,hr⟩:=bs hr
   apply TO.cal (wn T) rfl Qw (lJ h6) rfl rfl rfl
   repeat exact sd T
   refine wc_ T (g:=?_)
   obtain⟨⟨v28,v29⟩,h15,hr⟩:=bs hr
   try dsimp only at hr
   refine TX.loopE (step:=iX v14) (x:=(([]:List Nat),([]:List Nat),0)) h15 (fun (v15,v16,v17)=>⟨.Z::.Z::.Z::.Z::.lptr 0 0 0::.Z::.Z::.lptr 1 0 0::.lptr 3 0 0::.Z::.Z::.Z::.Z::.Z::.Z::.Z::.Z::.Z::.Z::.Z::.Z::.Z::.Z::.Z::.Z::.Z::.Z::.Z::.Z::.Z::.lsl 5 0 v14.length::.v (.int .i64 (v14.length:Int))::.v (.int .i64 v17)::.Z::.Z::.Z::.Z::.Z::.Z::.Z::.Z::.Z::.Z::.Z::.Z::.Z::.Z::.Z::.Z::.Z::.Z::.Z::.Z::.Z::.Z::.Z::[],[.var [.v (.int .i64 0),.v (.slice none 0 0),.v (.int .i64 0),.v (.slice none 0 0)],.var [.v (.int .i64 v2),.lsl 2 0 v15.length],.rows 1 (v15.map e_f),.var [.v (.int .i64 v2),.lsl 4 0 v16.length],.rows 1 (v16.map e_f),.rows 2 (v14.map e_ii)]⟩) (fun (v22,v23)=>(.exit 0,⟨.Z::.Z::.Z::.Z::.lptr 0 0 0::.Z::.Z::.lptr 1 0 0::.lptr 3 0 0::.Z::.Z::.Z::.Z::.Z::.Z::.Z::.Z::.Z::.Z::.Z::.Z::.Z::.Z::.Z::.Z::.Z::.Z::.Z::.Z::.Z::.Z::.Z::.Z::.Z::.Z::.Z::.Z::.Z::.Z::.Z::.Z::.Z::.Z::.Z::.Z::.Z::.Z::.Z::.Z::.Z::.Z::.Z::.Z::.Z::.Z::.Z::[],[.var [.v (.int .i64 0),.v (.slice none 0 0),.v (.int .i64 0),.v (.slice none 0 0)],.var [.v (.int .i64 v2),.lsl 2 0 v22.length],.rows 1 (v22.map e_f),.var [.v (.int .i64 v2),.lsl 4 0 v23.length],.rows 1 (v23.map e_f)]⟩)) ?_ ?_ ?_ ?_
   ·rintro⟨v15,v16,v17⟩ v0 hr
    dsimp only[iX] at hr
    try dsimp only
    refine wa_ T (g:=?_)
    rcases ifs hr with⟨h11,hr⟩|⟨h11,hr⟩
    ·have T:=an h11 T
     refine wa_ T (g:=?_)
     obtain⟨⟨v24,v25⟩,h12,hr⟩:=bs hr
     try dsimp only at hr
     have h12m:=gQ (f:=e_ii) h12
     have h12l:=jA h12
     try simp only[List.length_set] at h12l
     have h12a:=jC h12
     have T:=an h12m T
     have T:=an h12l T
     have T:=an h12a T
     refine wA T (g:=?_)
     apply TO.pop1 (wn T) (kF un3 un36 rfl)
     repeat exact sd T
     refine wa_ T (g:=?_)
     apply TO.bm e_f ([(FloatKind.f32.nearest v24)]:List Nat) (wn T) rfl (by simp only[zz,y71,e_c,e_f,e_ii,Nat.reduceAdd,Nat.reduceMul,Nat.reduceLeDiff,Nat.reduceEqDiff,tslice,tparts,h5,h11,h12m,h12l,h12a];exact rfl) rfl
     repeat exact sd T
     refine wa_ T (g:=?_)
     obtain⟨v26,h13,hr⟩:=bs hr
     apply TO.ap (f:=e_f) (xs:=v15) (ys:=([(FloatKind.f32.nearest v24)]:List Nat)) (wn T) rfl rfl (by first|rfl|simp only[List.length_set]) rfl rfl so62 ni62 zc36 rfl (by rw[by36];exact h13) (fun _=>⟨rfl,rfl,rfl⟩)
     repeat exact sd T
     refine wA T (g:=?_)
     apply TO.pop1 (wn T) (kF un3 un36 rfl)
     repeat exact sd T
     refine wa_ T (g:=?_)
     apply TO.bm e_f ([(FloatKind.f32.nearest v25)]:List Nat) (wn T) rfl (by simp only[zz,y71,e_c,e_f,e_ii,Nat.reduceAdd,Nat.reduceMul,Nat.reduceLeDiff,Nat.reduceEqDiff,tslice,tparts,h5,h11,h12m,h12l,h12a];exact rfl) rfl
     repeat exact sd T
     refine wa_ T (g:=?_)
     obtain⟨v27,h14,hr⟩:=bs hr
     apply TO.ap (f:=e_f) (xs:=v16) (ys:=([(FloatKind.f32.nearest v25)]:List Nat)) (wn T) rfl rfl (by first|rfl|simp only[List.length_set]) rfl rfl so62 ni62 zc36 rfl (by rw[by36];exact h14) (fun _=>⟨rfl,rfl,rfl⟩)
     repeat exact sd T
     refine wa_ T (g:=?_)
     cases hr
     refine⟨rfl,?_⟩
     exact wk_ T [some 0,some 1,some 2,some 3,some 4,some 5] rfl (rv (rv (.rows (rv (.rows (.rows .nil rfl rfl) rfl rfl) rfl) rfl rfl) rfl) rfl)
    ·have T:=an h11 T
     refine wa_ T (g:=?_)
     cases hr
     refine⟨rfl,?_⟩
     exact wk_ T [some 0,some 1,some 2,some 3,some 4] rfl (rv (rv (.rows (rv (.rows .nil rfl rfl) rfl) rfl rfl) rfl) rfl)
   ·intro e h;cases h
   ·try dsimp only
    refine wA T (g:=?_)
    cases hr
    refine⟨.inr rfl,_,(ry T),?_⟩
    exact wk_ T [some 2,some 4] rfl (.rows (.rows .nil rfl rfl) rfl rfl)
   ·try dsimp only
    exact wk_ T [some 0,some 1,none,some 2,none,some 3] rfl (rv (rv (.virt (rv (.virt (.rows .nil rfl rfl)) rfl)) rfl) rfl)
 rfl
end Go.Rex
namespace Go.Rex
open Go.Proofs
open Go Go.Rex Go.RowKit
set_option maxRecDepth 100000
set_option maxHeartbeats 200000
def y72:=an @ag126 <| an @ag64 <| an @cs126 <| an @cs64 <| an @ok126 <| an @ok64 <| an @st126 <| @zc126
theorem yL{v1:Int}{v2:(List Nat)}{v3:Int}{v4:(List Nat)}(hr:pP v1 v2=some (v3,v4)):Spec (lim Tryz.prog) 76 [.agg [.v (.int .i64 v1),.list 1 (v2.map e_f)]] ⟨[.agg [.v (.int .i64 v3),.list 1 (v4.map e_f),.v (.int .i64 0),.v (.int .i64 0)]],[]⟩:=by
 unfold pP at hr
 have T:=an y72 <| @e_f.eq_1
 apply Spec.fn Tryz.func76 rfl
 focus (simp[Tryz.f76]<;>exact rfl)
 focus
  refine wB T (g:=?_)
  cases hr
  refine⟨.inr rfl,_,(ry T),?_⟩
  exact wr [] rfl .nil
 rfl
theorem dJ{v1:Bool}{v2:Int}{v3:Int}(hr:cA v1 v2=some (v3)):Spec (lim Tryz.prog) 139 [.v (.bool v1),.v (.int .i64 v2)] ⟨[.v (.int .i64 v3)],[]⟩:=by
 unfold cA at hr
 have T:=trivial
 apply Spec.fn Tryz.func139 rfl
 focus (simp[Tryz.f139]<;>exact rfl)
 focus
  refine wa_ T (g:=?_)
  rcases ifs hr with⟨h1,hr⟩|⟨h1,hr⟩
  ·have T:=an h1 T
   refine wa_ T (g:=?_)
   cases hr
   refine⟨.inr rfl,_,(ry T),?_⟩
   exact wk_ T [] rfl .nil
  ·have T:=an h1 T
   refine wa_ T (g:=?_)
   cases hr
   refine⟨.inr rfl,_,(ry T),?_⟩
   exact wk_ T [] rfl .nil
 rfl
theorem gS{v1:Int}{v2:Int}{v3:Int}{v4:Int}(hr:fC v1 v2 v3=some (v4)):Spec (lim Tryz.prog) 128 [.v (.int .i64 v1),.v (.int .i64 v2),.v (.int .i64 v3)] ⟨[.v (.int .i64 v4)],[]⟩:=by
 unfold fC at hr
 have T:=trivial
 apply Spec.fn Tryz.func128 rfl
 focus (simp[Tryz.f128]<;>exact rfl)
 focus
  refine wa_ T (g:=?_)
  rcases ifs hr with⟨h1,hr⟩|⟨h1,hr⟩
  ·have T:=an h1 T
   refine wa_ T (g:=?_)
   obtain⟨v5,h2,hr⟩:=bs hr
   apply TO.cal (wn T) rfl tX (dJ h2) rfl rfl rfl
   repeat exact sd T
   refine wa_ T (g:=?_)
   cases hr
   refine⟨.inr rfl,_,(ry T),?_⟩
   exact wk_ T [] rfl .nil
  ·have T:=an h1 T
   refine wa_ T (g:=?_)
   obtain⟨v6,h3,hr⟩:=bs hr
   apply TO.cal (wn T) rfl tX (dJ h3) rfl rfl rfl
   repeat exact sd T
   refine wa_ T (g:=?_)
   cases hr
   refine⟨.inr rfl,_,(ry T),?_⟩
   exact wk_ T [] rfl .nil
 rfl
theorem uJ{v1:Int}{v2:Int}(hr:lT v1=some (v2)):Spec (lim Tryz.prog) 143 [.v (.int .i64 v1)] ⟨[.v (.int .i64 v2)],[]⟩:=by
 unfold lT at hr
 have T:=trivial
 apply Spec.fn Tryz.func143 rfl
 focus (simp[Tryz.f143]<;>exact rfl)
 focus
  refine wa_ T (g:=?_)
  obtain⟨v3,h1,hr⟩:=bs hr
  apply TO.cal (wn T) rfl zC (gS h1) rfl rfl rfl
  repeat exact sd T
  refine wa_ T (g:=?_)
  cases hr
  refine⟨.inr rfl,_,(ry T),?_⟩
  exact wr [] rfl .nil
 rfl
def y73:=an @ag39 <| an @cs39 <| an @ok39 <| an @so162 <| @aV
theorem cN{v1:(List Int)}{v2:Int}(hr:aR v1=some (v2)):Spec (lim Tryz.prog) 107 [.list 1 (v1.map e_i)] ⟨[.v (.int .i64 v2)],[]⟩:=by
 unfold aR at hr
 have T:=an y73 <| @e_i.eq_1
 apply Spec.fn Tryz.func107 rfl
 focus (simp[Tryz.f107]<;>exact rfl)
 focus
  refine wc_ T (g:=?_)
  obtain⟨v7,h7,hr⟩:=bs hr
  refine TX.loopE (step:=cH v1) (x:=0) h7 (fun v3=>⟨.Z::.Z::.Z::.Z::.Z::.list 1 (v1.map e_i)::.v (.int .i64 (v1.length:Int))::.v (.int .i64 v3)::.Z::.Z::.Z::.Z::.Z::.Z::.Z::[],[]⟩) (fun e=>match e with|(.inl v5)=>(.ret,⟨.Z::.Z::.v (.int .i64 v5)::.Z::.Z::.Z::.Z::.Z::.Z::.Z::.Z::.Z::.Z::.Z::.Z::[],[]⟩)|(.inr _)=>(.exit 0,⟨.Z::.Z::.Z::.Z::.Z::.Z::.Z::.Z::.Z::.Z::.Z::.Z::.Z::.Z::.Z::[],[]⟩)) ?_ ?_ ?_ ?_
  ·rintro v3 v0 hr
   dsimp only[cH] at hr
   try dsimp only
   refine wa_ T (g:=?_)
   rcases ifs hr with⟨h4,hr⟩|⟨h4,hr⟩
   ·have T:=an h4 T
    refine wa_ T (g:=?_)
    obtain⟨v6,h5,hr⟩:=bs hr
    have T:=an (gx e_i h5) T
    refine wA T (g:=?_)
    rcases ifs hr with⟨h6,hr⟩|⟨h6,hr⟩
    ·have T:=an h6 T
     refine wa_ T (g:=?_)
     cases hr
     refine⟨rfl,?_⟩
     exact wk_ T [] rfl .nil
    ·have T:=an h6 T
     refine wa_ T (g:=?_)
     cases hr
     refine⟨rfl,?_⟩
     exact wk_ T [] rfl .nil
   ·have T:=an h4 T
    refine wa_ T (g:=?_)
    cases hr
    refine⟨rfl,?_⟩
    exact wk_ T [] rfl .nil
  ·intro e h;rcases e with _|e<;>cases h
  ·try dsimp only
   rcases v7 with v8|_
   ·try dsimp only at hr
    try dsimp only
    refine wa_ T (g:=?_)
    cases hr
    refine⟨.inr rfl,_,(ry T),?_⟩
    exact wr [] rfl .nil
   ·try dsimp only at hr
    try dsimp only
    refine wa_ T (g:=?_)
    cases hr
    refine⟨.inr rfl,_,(ry T),?_⟩
    exact wr [] rfl .nil
  ·try dsimp only
   exact wr [] rfl .nil
 rfl
def y74:=an @un36 <| @un81
theorem wY{v1:Nat}{v2:Bool}(hr:bD v1=some (v2)):Spec (lim Tryz.prog) 147 [.v (.float .f32 v1)] ⟨[.v (.bool v2)],[]⟩:=by
 unfold bD at hr
 have T:=y74
 apply Spec.fn Tryz.func147 rfl
 focus (simp[Tryz.f147]<;>exact rfl)
 focus
  refine wa_ T (g:=?_)
  obtain⟨v3,h1,hr⟩:=bs hr
  apply TO.pop1 (wn T) (uB un36 un81 rfl h1)
  repeat exact sd T
  refine wa_ T (g:=?_)
  obtain⟨v4,h2,hr⟩:=bs hr
  apply TO.cal (wn T) rfl Tf (uE h2) rfl rfl rfl
  repeat exact sd T
  refine wa_ T (g:=?_)
  apply TO.pop1 (wn T) (nM rfl rfl (by decide))
  repeat exact sd T
  refine wa_ T (g:=?_)
  rcases ifs hr with⟨h3,hr⟩|⟨h3,hr⟩
  ·have T:=an h3 T
   refine wa_ T (g:=?_)
   obtain⟨v5,h4,hr⟩:=bs hr
   apply TO.cal (wn T) rfl Sa (uD h4) rfl rfl rfl
   repeat exact sd T
   refine wa_ T (g:=?_)
   apply TO.pop1 (wn T) (dG rfl)
   repeat exact sd T
   refine wa_ T (g:=?_)
   cases hr
   refine⟨.inr rfl,_,(ry T),?_⟩
   exact wk_ T [] rfl .nil
  ·have T:=an h3 T
   refine wa_ T (g:=?_)
   cases hr
   refine⟨.inr rfl,_,(ry T),?_⟩
   exact wk_ T [] rfl .nil
 rfl
def y75:=an @cs39 <| an @so162 <| @zc39
theorem sE{v1:Nat}{v2:Int}(hr:bG v1=some (v2)):Spec (lim Tryz.prog) 144 [.v (.float .f32 v1)] ⟨[.v (.int .i64 v2)],[]⟩:=by
 unfold bG at hr
 have T:=an y75 <| @e_i.eq_1
 apply Spec.fn Tryz.func144 rfl
 focus (simp[Tryz.f144]<;>exact rfl)
 focus
  refine wa_ T (g:=?_)
  obtain⟨v3,h1,hr⟩:=bs hr
  apply TO.cal (wn T) rfl aA3 (wY h1) rfl rfl rfl
  repeat exact sd T
  refine wa_ T (g:=?_)
  apply TO.pop1 (wn T) (dG rfl)
  repeat exact sd T
  refine wa_ T (g:=?_)
  obtain⟨v4,h2,hr⟩:=bs hr
  apply TO.cal (wn T) rfl tX (dJ h2) rfl rfl rfl
  repeat exact sd T
  refine wa_ T (g:=?_)
  apply TO.pop1 (wn T) (nM rfl rfl (by decide))
  repeat exact sd T
  refine wa_ T (g:=?_)
  rcases ifs hr with⟨h3,hr⟩|⟨h3,hr⟩
  ·have T:=an h3 T
   refine wa_ T (g:=?_)
   obtain⟨v5,h4,hr⟩:=bs hr
   apply TO.cal (wn T) rfl tX (dJ h4) rfl rfl rfl
   repeat exact sd T
   refine wa_ T (g:=?_)
   apply TO.bm e_i ([v4,v5]:List Int) (wn T) rfl (by simp only[zz,y75,e_i,Nat.reduceAdd,Nat.reduceMul,Nat.reduceLeDiff,Nat.reduceEqDiff,tslice,tparts,h3];exact rfl) rfl
   repeat exact sd T
   refine wa_ T (g:=?_)
   obtain⟨v6,h5,hr⟩:=bs hr
   apply TO.cal (wn T) rfl vV (cN h5) rfl rfl rfl
   repeat exact sd T
   refine wa_ T (g:=?_)
   cases hr
   refine⟨.inr rfl,_,(ry T),?_⟩
   exact wk_ T [] rfl .nil
  ·have T:=an h3 T
   refine wa_ T (g:=?_)
   apply TO.pop1 (wn T) (nM rfl rfl (by decide))
   repeat exact sd T
   refine wa_ T (g:=?_)
   obtain⟨v7,h6,hr⟩:=bs hr
   apply TO.cal (wn T) rfl tX (dJ h6) rfl rfl rfl
   repeat exact sd T
   refine wa_ T (g:=?_)
   apply TO.bm e_i ([v4,v7]:List Int) (wn T) rfl (by simp only[zz,y75,e_i,Nat.reduceAdd,Nat.reduceMul,Nat.reduceLeDiff,Nat.reduceEqDiff,tslice,tparts,h3];exact rfl) rfl
   repeat exact sd T
   refine wa_ T (g:=?_)
   obtain⟨v8,h7,hr⟩:=bs hr
   apply TO.cal (wn T) rfl vV (cN h7) rfl rfl rfl
   repeat exact sd T
   refine wa_ T (g:=?_)
   cases hr
   refine⟨.inr rfl,_,(ry T),?_⟩
   exact wk_ T [] rfl .nil
 rfl
end Go.Rex
namespace Go.Rex
open Go.Proofs
open Go Go.Rex Go.RowKit
set_option maxRecDepth 100000
set_option maxHeartbeats 1000000
def y76:=an @ag3 <| an @ag36 <| an @ag62 <| an @cs36 <| an @cs39 <| an @aCg <| an @Lm <| an @ok36 <| an @so162 <| an @so62 <| an @zc39 <| @aV
theorem rD{v1:Int}{v2:(List Nat)}{v3:Int}{v4:Int}(hr:fL v1 v2=some (v3,v4)):Spec (lim Tryz.prog) 138 [.agg [.v (.int .i64 v1),.list 1 (v2.map e_f)]] ⟨[.tuple [.v (.int .i64 v3),.v (.int .i64 v4)]],[]⟩:=by
 unfold fL at hr
 have T:=an y76 <| an @e_f.eq_1 <| @e_i.eq_1
 apply Spec.fn Tryz.func138 rfl
 focus (simp[Tryz.f138]<;>exact rfl)
 focus
  refine wB T (g:=?_)
  obtain⟨v5,h1,hr⟩:=bs hr
  apply TD.cal (wn T) rfl aAX (uJ h1) rfl rfl rfl
  repeat exact sd T
  refine wC T (g:=?_)
  obtain⟨v6,h2,hr⟩:=bs hr
  apply TD.cal (wn T) rfl tX (dJ h2) rfl rfl rfl
  repeat exact sd T
  refine wC T (g:=?_)
  obtain⟨v7,h3,hr⟩:=bs hr
  apply TD.cal (wn T) rfl tX (dJ h3) rfl rfl rfl
  repeat exact sd T
  refine wa_ T (g:=?_)
  apply TD.bm e_i ([v5,v6,v7]:List Int) (wn T) rfl (by simp only[zz,y76,e_f,e_i,Nat.reduceAdd,Nat.reduceMul,Nat.reduceLeDiff,Nat.reduceEqDiff,tslice,tparts];exact rfl) rfl
  repeat exact sd T
  refine wa_ T (g:=?_)
  obtain⟨v8,h4,hr⟩:=bs hr
  apply TD.cal (wn T) rfl vV (cN h4) rfl rfl rfl
  repeat exact sd T
  refine wa_ T (g:=?_)
  rcases ifs hr with⟨h5,hr⟩|⟨h5,hr⟩
  ·have T:=an h5 T
   refine wa_ T (g:=?_)
   cases hr
   refine⟨.inr rfl,_,(ry T),?_⟩
   exact wk_ T [] rfl .nil
  ·have T:=an h5 T
   refine wC T (g:=?_)
   obtain⟨v16,h14,hr⟩:=bs hr
   refine TX.loopE (step:=aS v2) (x:=0) h14 (fun v9=>⟨.Z::.Z::.Z::.Z::.Z::.Z::.Z::.Z::.Z::.Z::.Z::.Z::.Z::.Z::.Z::.Z::.Z::.Z::.Z::.Z::.Z::.Z::.Z::.Z::.Z::.Z::.Z::.list 1 (v2.map e_f)::.v (.int .i64 (v2.length:Int))::.v (.int .i64 v9)::.Z::.Z::.Z::.Z::.Z::.Z::.Z::.Z::.Z::.Z::.Z::[],[]⟩) (fun e=>match e with|(.inl (v12,v13))=>(.ret,⟨.Z::.Z::.v (.int .i64 v12)::.v (.int .i64 v13)::.Z::.Z::.Z::.Z::.Z::.Z::.Z::.Z::.Z::.Z::.Z::.Z::.Z::.Z::.Z::.Z::.Z::.Z::.Z::.Z::.Z::.Z::.Z::.Z::.Z::.Z::.Z::.Z::.Z::.Z::.Z::.Z::.Z::.Z::.Z::.Z::.Z::[],[]⟩)|(.inr _)=>(.exit 0,⟨.Z::.Z::.Z::.Z::.Z::.Z::.Z::.Z::.Z::.Z::.Z::.Z::.Z::.Z::.Z::.Z::.Z::.Z::.Z::.Z::.Z::.Z::.Z::.Z::.Z::.Z::.Z::.Z::.Z::.Z::.Z::.Z::.Z::.Z::.Z::.Z::.Z::.Z::.Z::.Z::.Z::[],[]⟩)) ?_ ?_ ?_ ?_
   ·rintro v9 v0 hr
    dsimp only[aS] at hr
    try dsimp only
    refine wa_ T (g:=?_)
    rcases ifs hr with⟨h10,hr⟩|⟨h10,hr⟩
    ·have T:=an h10 T
     refine wa_ T (g:=?_)
     obtain⟨v14,h11,hr⟩:=bs hr
     have T:=an (gx e_f h11) T
     refine wA T (g:=?_)
     obtain⟨v15,h12,hr⟩:=bs hr
     apply TO.cal (wn T) rfl aBa (sE h12) rfl rfl rfl
     repeat exact sd T
     refine wa_ T (g:=?_)
     rcases ifs hr with⟨h13,hr⟩|⟨h13,hr⟩
     ·have T:=an h13 T
      refine wa_ T (g:=?_)
      cases hr
      refine⟨rfl,?_⟩
      exact wk_ T [] rfl .nil
     ·have T:=an h13 T
      refine wa_ T (g:=?_)
      cases hr
      refine⟨rfl,?_⟩
      exact wk_ T [] rfl .nil
    ·have T:=an h10 T
     refine wa_ T (g:=?_)
     cases hr
     refine⟨rfl,?_⟩
     exact wk_ T [] rfl .nil
   ·intro e h;rcases e with _|e<;>cases h
   ·try dsimp only
    rcases v16 with⟨v17,v18⟩|_
    ·try dsimp only at hr
     try dsimp only
     refine wa_ T (g:=?_)
     cases hr
     refine⟨.inr rfl,_,(ry T),?_⟩
     exact wk_ T [] rfl .nil
    ·try dsimp only at hr
     try dsimp only
     refine wa_ T (g:=?_)
     cases hr
     refine⟨.inr rfl,_,(ry T),?_⟩
     exact wk_ T [] rfl .nil
   ·try dsimp only
    exact wk_ T [] rfl .nil
 rfl
end Go.Rex
namespace Go.Rex
open Go.Proofs
open Go Go.Rex Go.RowKit
set_option maxRecDepth 100000
set_option maxHeartbeats 200000
def y77:=an @ag3 <| an @ag64 <| an @cs39 <| an @cs64 <| an @Kp <| an @Sf <| an @Tj <| an @ok64 <| an @so162 <| @zc39
theorem uZ{v1:Int}{v2:(List Nat)}{v3:Int}{v4:Int}{v5:Int}{v6:Int}(hr:kE v1 v2 v3 v4=some (v5,v6)):Spec (lim Tryz.prog) 127 [.agg [.v (.int .i64 v1),.list 1 (v2.map e_f),.v (.int .i64 v3),.v (.int .i64 v4)]] ⟨[.tuple [.v (.int .i64 v5),.v (.int .i64 v6)]],[]⟩:=by
 unfold kE at hr
 have T:=an y77 <| an @e_f.eq_1 <| @e_i.eq_1
 apply Spec.fn Tryz.func127 rfl
 focus (simp[Tryz.f127]<;>exact rfl)
 focus
  refine wB T (g:=?_)
  obtain⟨⟨v7,v8⟩,h1,hr⟩:=bs hr
  try dsimp only at hr
  apply TO.cal (wn T) rfl aAw (rD h1) rfl rfl rfl
  repeat exact sd T
  refine wa_ T (g:=?_)
  rcases ifs hr with⟨h2,hr⟩|⟨h2,hr⟩
  ·have T:=an h2 T
   refine wa_ T (g:=?_)
   cases hr
   refine⟨.inr rfl,_,(ry T),?_⟩
   exact wk_ T [] rfl .nil
  ·have T:=an h2 T
   refine wA T (g:=?_)
   obtain⟨v9,h3,hr⟩:=bs hr
   apply TD.cal (wn T) rfl zC (gS h3) rfl rfl rfl
   repeat exact sd T
   refine wA T (g:=?_)
   obtain⟨v10,h4,hr⟩:=bs hr
   apply TD.cal (wn T) rfl zC (gS h4) rfl rfl rfl
   repeat exact sd T
   refine wa_ T (g:=?_)
   apply TD.bm e_i ([v9,v10]:List Int) (wn T) rfl (by simp only[zz,y77,e_f,e_i,Nat.reduceAdd,Nat.reduceMul,Nat.reduceLeDiff,Nat.reduceEqDiff,tslice,tparts,h2];exact rfl) rfl
   repeat exact sd T
   refine wa_ T (g:=?_)
   obtain⟨v11,h5,hr⟩:=bs hr
   apply TD.cal (wn T) rfl vV (cN h5) rfl rfl rfl
   repeat exact sd T
   refine wa_ T (g:=?_)
   cases hr
   refine⟨.inr rfl,_,(ry T),?_⟩
   exact wk_ T [] rfl .nil
 rfl
def y78:=an @ag126 <| an @ag142 <| an @cs126 <| an @cs142 <| an @ok126 <| an @ok142 <| an @st142 <| @zc142
theorem zY{v1:Int}{v2:(List Nat)}{v3:Int}{v4:Int}{v5:Int}{v6:(List Nat)}{v7:Int}{v8:Int}{v9:Int}(hr:oR v1 v2 v3 v4=some (v5,v6,v7,v8,v9)):Spec (lim Tryz.prog) 106 [.agg [.v (.int .i64 v1),.list 1 (v2.map e_f),.v (.int .i64 v3),.v (.int .i64 v4)]] ⟨[.tuple [.agg [.v (.int .i64 v5),.list 1 (v6.map e_f),.v (.int .i64 v7),.v (.int .i64 v8)],.v (.int .i64 v9)]],[]⟩:=by
 unfold oR at hr
 have T:=an y78 <| @e_f.eq_1
 apply Spec.fn Tryz.func106 rfl
 focus (simp[Tryz.f106]<;>exact rfl)
 focus
  refine wB T (g:=?_)
  obtain⟨⟨v10,v11⟩,h1,hr⟩:=bs hr
  try dsimp only at hr
  apply TO.cal (wn T) rfl aAU (uZ h1) rfl rfl rfl
  repeat exact sd T
  refine wA T (g:=?_)
  cases hr
  refine⟨.inr rfl,_,(ry T),?_⟩
  exact wr [] rfl .nil
 rfl
def y79:=an @ag62 <| an @Kp <| an @Ku <| an @Lm <| @so62
theorem nF{v1:Int}{v2:(List Nat)}{v3:Int}{v4:Int}{v5:Int}(hr:dK v1 v2 v3 v4=some (v5)):Spec (lim Tryz.prog) 110 [.agg [.v (.int .i64 v1),.list 1 (v2.map e_f),.v (.int .i64 v3),.v (.int .i64 v4)]] ⟨[.v (.int .i64 v5)],[]⟩:=by
 unfold dK at hr
 have T:=an y79 <| @e_f.eq_1
 apply Spec.fn Tryz.func110 rfl
 focus (simp[Tryz.f110]<;>exact rfl)
 focus
  refine wD T (g:=?_)
  cases hr
  refine⟨.inr rfl,_,(ry T),?_⟩
  exact wr [] rfl .nil
 rfl
def y80:=an @ag142 <| an @ag3 <| an @cs142 <| an @cs39 <| an @Yi <| an @Wa <| an @ok142 <| an @so162 <| @zc39
theorem pC{v1:Int}{v2:(List Nat)}{v3:Int}{v4:Int}{v5:Int}{v6:Int}{v7:Int}(hr:dD v1 v2 v3 v4 v5 v6=some (v7)):Spec (lim Tryz.prog) 108 [.agg [.v (.int .i64 v1),.list 1 (v2.map e_f),.v (.int .i64 v3),.v (.int .i64 v4)],.agg [.v (.int .i64 v5),.v (.int .i64 v6)]] ⟨[.v (.int .i64 v7)],[]⟩:=by
 unfold dD at hr
 have T:=an y80 <| an @e_f.eq_1 <| @e_i.eq_1
 apply Spec.fn Tryz.func108 rfl
 focus (simp[Tryz.f108]<;>exact rfl)
 focus
  refine wB T (g:=?_)
  obtain⟨v8,h1,hr⟩:=bs hr
  apply TD.cal (wn T) rfl So (nF h1) rfl rfl rfl
  repeat exact sd T
  refine wa_ T (g:=?_)
  obtain⟨v9,h2,hr⟩:=bs hr
  apply TD.cal (wn T) rfl zC (gS h2) rfl rfl rfl
  repeat exact sd T
  refine wA T (g:=?_)
  obtain⟨v10,h3,hr⟩:=bs hr
  apply TD.cal (wn T) rfl zC (gS h3) rfl rfl rfl
  repeat exact sd T
  refine wa_ T (g:=?_)
  apply TD.bm e_i ([v9,v10]:List Int) (wn T) rfl (by simp only[zz,y80,e_f,e_i,Nat.reduceAdd,Nat.reduceMul,Nat.reduceLeDiff,Nat.reduceEqDiff,tslice,tparts];exact rfl) rfl
  repeat exact sd T
  refine wa_ T (g:=?_)
  obtain⟨v11,h4,hr⟩:=bs hr
  apply TD.cal (wn T) rfl vV (cN h4) rfl rfl rfl
  repeat exact sd T
  refine wa_ T (g:=?_)
  cases hr
  refine⟨.inr rfl,_,(ry T),?_⟩
  exact wr [] rfl .nil
 rfl
def y81:=an @ag148 <| an @cs148 <| an @ok148 <| an @st122 <| an @st148 <| an @zc122 <| @zc148
theorem lX{v1:Int}{v2:Int}{v3:Int}{v4:Int}(hr:gR v1 v2=some (v3,v4)):Spec (lim Tryz.prog) 130 [.v (.int .i64 v1),.v (.int .i64 v2)] ⟨[.agg [.v (.int .i64 v3),.v (.int .i64 v4)]],[]⟩:=by
 unfold gR at hr
 have T:=y81
 apply Spec.fn Tryz.func130 rfl
 focus (simp[Tryz.f130]<;>exact rfl)
 focus
  refine wa_ T (g:=?_)
  cases hr
  refine⟨.inr rfl,_,(ry T),?_⟩
  exact wr [] rfl .nil
 rfl
def y82:=an @ag148 <| an @ag3 <| an @ag36 <| an @ag62 <| an @cs148 <| an @cs36 <| an @Kp <| an @Sf <| an @Ku <| an @Lm <| an @ok148 <| an @ok36 <| an @so62 <| an @un3 <| an @un36 <| @zc148
theorem rW{v1:Int}{v2:(List Nat)}{v3:Int}{v4:Int}{v5:Int}{v6:Int}{v7:Int}(hr:fX v1 v2 v3 v4 v5=some (v6,v7)):Spec (lim Tryz.prog) 129 [.agg [.v (.int .i64 v1),.list 1 (v2.map e_f),.v (.int .i64 v3),.v (.int .i64 v4)],.v (.int .i64 v5)] ⟨[.agg [.v (.int .i64 v6),.v (.int .i64 v7)]],[]⟩:=by
 unfold fX at hr
 have T:=an y82 <| @e_f.eq_1
 apply Spec.fn Tryz.func129 rfl
 focus (simp[Tryz.f129]<;>exact rfl)
 focus
  refine wB T (g:=?_)
  obtain⟨v8,h1,hr⟩:=bs hr
  have T:=an (gx e_f h1) T
  refine wA T (g:=?_)
  obtain⟨v9,h2,hr⟩:=bs hr
  apply TO.pop1 (wn T) (rR un36 un3 rfl h2)
  repeat exact sd T
  refine wa_ T (g:=?_)
  apply TO.pop1 (wn T) (Cx rfl)
  repeat exact sd T
  refine wa_ T (g:=?_)
  apply TO.pop1 (wn T) (Cs rfl rfl)
  repeat exact sd T
  refine wA T (g:=?_)
  apply TD.pop1 (wn T) (Cs rfl rfl)
  repeat exact sd T
  refine wA T (g:=?_)
  obtain⟨⟨v10,v11⟩,h3,hr⟩:=bs hr
  try dsimp only at hr
  apply TO.cal (wn T) rfl Ht (lX h3) rfl rfl rfl
  repeat exact sd T
  refine wa_ T (g:=?_)
  cases hr
  refine⟨.inr rfl,_,(ry T),?_⟩
  exact wr [] rfl .nil
 rfl
def y83:=an @ag148 <| an @ag3 <| an @cs148 <| an @Rr <| an @aAS <| an @Rt <| an @ok148 <| @zc148
theorem nY{v1:Int}{v2:Int}{v3:Int}{v4:Int}{v5:Int}{v6:Int}(hr:gK v1 v2 v3 v4=some (v5,v6)):Spec (lim Tryz.prog) 111 [.agg [.v (.int .i64 v1),.v (.int .i64 v2)],.agg [.v (.int .i64 v3),.v (.int .i64 v4)]] ⟨[.agg [.v (.int .i64 v5),.v (.int .i64 v6)]],[]⟩:=by
 unfold gK at hr
 have T:=y83
 apply Spec.fn Tryz.func111 rfl
 focus (simp[Tryz.f111]<;>exact rfl)
 focus
  refine wB T (g:=?_)
  obtain⟨⟨v7,v8⟩,h1,hr⟩:=bs hr
  try dsimp only at hr
  apply TO.cal (wn T) rfl Ht (lX h1) rfl rfl rfl
  repeat exact sd T
  refine wa_ T (g:=?_)
  cases hr
  refine⟨.inr rfl,_,(ry T),?_⟩
  exact wr [] rfl .nil
 rfl
def y84:=an @ag142 <| an @ag148 <| an @cs142 <| an @cs148 <| an @ok142 <| an @ok148 <| @zc148
theorem rU{v1:Int}{v2:(List Nat)}{v3:Int}{v4:Int}{v5:Int}{v6:Int}{v7:Int}{v8:Int}(hr:eN v1 v2 v3 v4 v5 v6=some (v7,v8)):Spec (lim Tryz.prog) 109 [.agg [.v (.int .i64 v1),.list 1 (v2.map e_f),.v (.int .i64 v3),.v (.int .i64 v4)],.v (.int .i64 v5),.v (.int .i64 v6)] ⟨[.agg [.v (.int .i64 v7),.v (.int .i64 v8)]],[]⟩:=by
 unfold eN at hr
 have T:=an y84 <| @e_f.eq_1
 apply Spec.fn Tryz.func109 rfl
 focus (simp[Tryz.f109]<;>exact rfl)
 focus
  refine wb_ T (g:=?_)
  obtain⟨⟨v22,v23⟩,h7,hr⟩:=bs hr
  try dsimp only at hr
  refine TX.loopE (step:=dX v1 v2 v3 v4 v6) (x:=(0,0,v5)) h7 (fun (v9,v10,v11)=>⟨.Z::.Z::.v (.int .i64 v6)::.fptr true [.v (.int .i64 v1),.list 1 (v2.map e_f),.v (.int .i64 v3),.v (.int .i64 v4)] 0::.Z::.Z::.lptr 0 0 0::.lptr 1 0 0::.v (.int .i64 v11)::.Z::.Z::.Z::.Z::.Z::.Z::.Z::.Z::.Z::.Z::.Z::.Z::[],[.var [.v (.int .i64 0),.v (.int .i64 0)],.var [.v (.int .i64 v9),.v (.int .i64 v10)]]⟩) (fun (v16,v17)=>(.exit 0,⟨.Z::.Z::.Z::.Z::.Z::.Z::.lptr 0 0 0::.lptr 1 0 0::.Z::.Z::.Z::.Z::.Z::.Z::.Z::.Z::.Z::.Z::.Z::.Z::.Z::[],[.var [.v (.int .i64 0),.v (.int .i64 0)],.var [.v (.int .i64 v16),.v (.int .i64 v17)]]⟩)) ?_ ?_ ?_ ?_
  ·rintro⟨v9,v10,v11⟩ v0 hr
   dsimp only[dX] at hr
   try dsimp only
   refine wa_ T (g:=?_)
   rcases ifs hr with⟨h4,hr⟩|⟨h4,hr⟩
   ·have T:=an h4 T
    refine wA T (g:=?_)
    obtain⟨⟨v18,v19⟩,h5,hr⟩:=bs hr
    try dsimp only at hr
    apply TD.cal (wn T) rfl aAq (rW h5) rfl rfl rfl
    repeat exact sd T
    refine wa_ T (g:=?_)
    obtain⟨⟨v20,v21⟩,h6,hr⟩:=bs hr
    try dsimp only at hr
    apply TD.cal (wn T) rfl Sl (nY h6) rfl rfl rfl
    repeat exact sd T
    refine wa_ T (g:=?_)
    cases hr
    refine⟨rfl,?_⟩
    exact wk_ T [some 0,some 1] rfl (rv (rv .nil rfl) rfl)
   ·have T:=an h4 T
    refine wa_ T (g:=?_)
    cases hr
    refine⟨rfl,?_⟩
    exact wk_ T [some 0,some 1] rfl (rv (rv .nil rfl) rfl)
  ·intro e h;cases h
  ·try dsimp only
   refine wA T (g:=?_)
   cases hr
   refine⟨.inr rfl,_,(ry T),?_⟩
   exact wr [] rfl .nil
  ·try dsimp only
   exact wr [some 0,some 1] rfl (rv (rv .nil rfl) rfl)
 rfl
def y85:=an @ag148 <| an @ag3 <| an @cs148 <| an @Tj <| an @Ku <| an @ok148 <| @zc148
theorem rP{v1:Int}{v2:(List Nat)}{v3:Int}{v4:Int}{v5:Int}{v6:Int}(hr:fY v1 v2 v3 v4=some (v5,v6)):Spec (lim Tryz.prog) 112 [.agg [.v (.int .i64 v1),.list 1 (v2.map e_f),.v (.int .i64 v3),.v (.int .i64 v4)]] ⟨[.agg [.v (.int .i64 v5),.v (.int .i64 v6)]],[]⟩:=by
 unfold fY at hr
 have T:=an y85 <| @e_f.eq_1
 apply Spec.fn Tryz.func112 rfl
 focus (simp[Tryz.f112]<;>exact rfl)
 focus
  refine wB T (g:=?_)
  obtain⟨⟨v7,v8⟩,h1,hr⟩:=bs hr
  try dsimp only at hr
  apply TO.cal (wn T) rfl Ht (lX h1) rfl rfl rfl
  repeat exact sd T
  refine wa_ T (g:=?_)
  cases hr
  refine⟨.inr rfl,_,(ry T),?_⟩
  exact wr [] rfl .nil
 rfl
def y86:=an @ag122 <| an @ag126 <| an @ag142 <| an @ag148 <| an @ag3 <| an @ag71 <| an @cs122 <| an @cs126 <| an @cs142 <| an @cs148 <| an @cs39 <| an @cs71 <| an @Rt <| an @Yi <| an @Wa <| an @ok122 <| an @ok126 <| an @ok142 <| an @ok148 <| an @ok71 <| an @so162 <| an @st122 <| an @zc122 <| an @zc142 <| an @zc148 <| @zc39
theorem rS{v1:Int}{v2:(List Nat)}{v3:Int}{v4:Int}{v5:Int}{v6:Int}{v7:Int}{v8:Int}{v9:Int}(hr:cS v1 v2 v3 v4 v5 v6=some (v7,v8,v9)):Spec (lim Tryz.prog) 75 [.agg [.v (.int .i64 v1),.list 1 (v2.map e_f),.v (.int .i64 v3),.v (.int .i64 v4)],.agg [.v (.int .i64 v5),.v (.int .i64 v6)]] ⟨[.tuple [.agg [.v (.int .i64 v7),.v (.int .i64 v8)],.v (.int .i64 v9)]],[]⟩:=by
 unfold cS at hr
 have T:=an y86 <| an @e_f.eq_1 <| @e_i.eq_1
 apply Spec.fn Tryz.func75 rfl
 focus (simp[Tryz.f75]<;>exact rfl)
 focus
  refine wB T (g:=?_)
  obtain⟨⟨v10,v11,v12,v13,v14⟩,h1,hr⟩:=bs hr
  try dsimp only at hr
  apply TO.cal (wn T) rfl aAl (zY h1) rfl rfl rfl
  repeat exact sd T
  refine wA T (g:=?_)
  obtain⟨v15,h2,hr⟩:=bs hr
  apply TO.cal (wn T) rfl aAn (pC h2) rfl rfl rfl
  repeat exact sd T
  refine wa_ T (g:=?_)
  apply TO.bm e_i ([v14,v15]:List Int) (wn T) rfl (by simp only[zz,y86,e_f,e_i,Nat.reduceAdd,Nat.reduceMul,Nat.reduceLeDiff,Nat.reduceEqDiff,tslice,tparts];exact rfl) rfl
  repeat exact sd T
  refine wa_ T (g:=?_)
  obtain⟨v16,h3,hr⟩:=bs hr
  apply TO.cal (wn T) rfl vV (cN h3) rfl rfl rfl
  repeat exact sd T
  refine wa_ T (g:=?_)
  rcases ifs hr with⟨h4,hr⟩|⟨h4,hr⟩
  ·have T:=an h4 T
   refine wa_ T (g:=?_)
   cases hr
   refine⟨.inr rfl,_,(ry T),?_⟩
   exact wk_ T [] rfl .nil
  ·have T:=an h4 T
   refine wA T (g:=?_)
   obtain⟨⟨v17,v18⟩,h5,hr⟩:=bs hr
   try dsimp only at hr
   apply TO.cal (wn T) rfl aAH (rU h5) rfl rfl rfl
   repeat exact sd T
   refine wA T (g:=?_)
   obtain⟨v19,h6,hr⟩:=bs hr
   apply TD.cal (wn T) rfl So (nF h6) rfl rfl rfl
   repeat exact sd T
   refine wa_ T (g:=?_)
   rcases ifs hr with⟨h7,hr⟩|⟨h7,hr⟩
   ·have T:=an h7 T
    refine wA T (g:=?_)
    obtain⟨⟨v20,v21⟩,h8,hr⟩:=bs hr
    try dsimp only at hr
    apply TD.cal (wn T) rfl aAV (rP h8) rfl rfl rfl
    repeat exact sd T
    refine wa_ T (g:=?_)
    obtain⟨⟨v22,v23⟩,h9,hr⟩:=bs hr
    try dsimp only at hr
    apply TD.cal (wn T) rfl Sl (nY h9) rfl rfl rfl
    repeat exact sd T
    refine wA T (g:=?_)
    cases hr
    refine⟨.inr rfl,_,(ry T),?_⟩
    exact wk_ T [] rfl .nil
   ·have T:=an h7 T
    refine wA T (g:=?_)
    cases hr
    refine⟨.inr rfl,_,(ry T),?_⟩
    exact wk_ T [] rfl .nil
 rfl
def y87:=an @ag3 <| an @ag64 <| an @ag71 <| an @cs122 <| an @cs64 <| an @cs71 <| an @Rr <| an @ok122 <| an @ok64 <| an @ok71 <| @zc122
theorem qF{v1:Int}{v2:(List Nat)}{v3:Int}{v4:Int}{v5:Int}{v6:Int}(hr:gG v1 v2 v3 v4=some (v5,v6)):Spec (lim Tryz.prog) 28 [.agg [.v (.int .i64 v1),.list 1 (v2.map e_f)],.agg [.v (.int .i64 v3),.v (.int .i64 v4)]] ⟨[.tuple [.v (.int .i64 v5),.v (.int .i64 v6)]],[]⟩:=by
 unfold gG at hr
 have T:=an y87 <| @e_f.eq_1
 apply Spec.fn Tryz.func28 rfl
 focus (simp[Tryz.f28]<;>exact rfl)
 focus
  refine wB T (g:=?_)
  obtain⟨⟨v7,v8⟩,h1,hr⟩:=bs hr
  try dsimp only at hr
  apply TD.cal (wn T) rfl aBT (yL h1) rfl rfl rfl
  repeat exact sd T
  refine wA T (g:=?_)
  obtain⟨⟨v9,v10,v11⟩,h2,hr⟩:=bs hr
  try dsimp only at hr
  apply TD.cal (wn T) rfl aBz (rS h2) rfl rfl rfl
  repeat exact sd T
  refine wA T (g:=?_)
  cases hr
  refine⟨.inr rfl,_,(ry T),?_⟩
  exact wr [] rfl .nil
 rfl
end Go.Rex
namespace Go.Rex
open Go.Proofs
open Go Go.Rex Go.RowKit
set_option maxRecDepth 100000
theorem follows:Tryz.prog.follows .mixedOrders=true:=by decide +kernel
theorem awake_true:AwT Tryz.prog 22:=Jk follows (k:=1000) (d:=50) (by decide +kernel)
end Go.Rex
