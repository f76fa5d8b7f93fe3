/- Proofs that the program's functions do what these plain functions say. -/
import Derived.Test.YtbodidihhbejmaaGB
import Derived.Test.YtbodidihhbejmaaS
import Derived.Test.YtbodidihhbejmaaG1
set_option linter.unusedSimpArgs false
set_option linter.unusedVariables false
set_option linter.defProp false
namespace Go.Rex
open Go.Proofs
open Go Go.Rex Go.RowKit
set_option maxRecDepth 100000
set_option maxHeartbeats 1000000
def y37:=an @ag3 <| an @ar47 <| an @by49 <| an @cs3 <| an @cs47 <| an @cs49 <| an @ni31 <| an @ok3 <| an @ok47 <| an @so31 <| an @so46 <| an @so47 <| an @un3 <| an @un51 <| an @zc49 <| @bH
theorem pS{v1:(List (Int×Int))}{v2:(List (Nat×Nat))}{v3:Bool}(hr:jA v1=some (v2,v3)):Spec (lim Try.prog) 93 [.list 2 (v1.map e_ii)] ⟨[.tuple [.lsl 0 0 v2.length,.v (.bool v3)]],[.rows 1 (v2.map e_c)]⟩:=by
 unfold jA at hr
 have T:=an y37 <| an @e_c.eq_1 <| @e_ii.eq_1
 apply Spec.fn Try.func93 rfl
 focus (simp[Try.f93]<;>exact rfl)
 focus
  refine wa_ T (g:=?_)
  apply TX.vt (α:=(Nat×Nat)) e_c 4 1 rfl
  repeat exact sd T
  with_reducible apply TX.here
  refine wa_ T (g:=?_)
  obtain⟨v17,h15,hr⟩:=bs hr
  refine TX.loopE (step:=bA v1) (x:=(([]:List (Nat×Nat)),0)) h15 (fun (v4,v5)=>⟨.list 2 (v1.map e_ii)::.Z::.Z::.Z::.lsl 0 0 v4.length::.v (.int .i64 v5)::.Z::.Z::.Z::.Z::.Z::.Z::.Z::.Z::.Z::.Z::.Z::.Z::.Z::.Z::.Z::.Z::.Z::.Z::.Z::.Z::.Z::.Z::.Z::.Z::.Z::.Z::.Z::.Z::.Z::.Z::.Z::.Z::.Z::.Z::.Z::.Z::.Z::.Z::.Z::[],[.rows 1 (v4.map e_c)]⟩) (fun e=>match e with|(.inl _)=>(.ret,⟨.Z::.Z::.v (.slice none 0 0)::.v (.bool false)::.Z::.Z::.Z::.Z::.Z::.Z::.Z::.Z::.Z::.Z::.Z::.Z::.Z::.Z::.Z::.Z::.Z::.Z::.Z::.Z::.Z::.Z::.Z::.Z::.Z::.Z::.Z::.Z::.Z::.Z::.Z::.Z::.Z::.Z::.Z::.Z::.Z::.Z::.Z::.Z::.Z::[],[]⟩)|(.inr v11)=>(.exit 0,⟨.Z::.Z::.Z::.Z::.lsl 0 0 v11.length::.Z::.Z::.Z::.Z::.Z::.Z::.Z::.Z::.Z::.Z::.Z::.Z::.Z::.Z::.Z::.Z::.Z::.Z::.Z::.Z::.Z::.Z::.Z::.Z::.Z::.Z::.Z::.Z::.Z::.Z::.Z::.Z::.Z::.Z::.Z::.Z::.Z::.Z::.Z::.Z::[],[.rows 1 (v11.map e_c)]⟩)) ?_ ?_ ?_ ?_
  ·rintro⟨v4,v5⟩ v0 hr
   dsimp only[bA] at hr
   try dsimp only
   refine wc_ T (g:=?_)
   rcases ifs hr with⟨h8,hr⟩|⟨h8,hr⟩
   ·have T:=an h8 T
    refine wa_ T (g:=?_)
    obtain⟨⟨v12,v13⟩,h9,hr⟩:=bs hr
    try dsimp only at hr
    have h9m:=cR (f:=e_ii) h9
    have h9l:=cV h9
    try simp only[List.length_set] at h9l
    have h9a:=dE h9
    repeat (first|(with_reducible first|refine mv ?_|refine TO.nil ?_)|((with_reducible first|apply TO.ia|apply TO.ia|apply TO.ld);(repeat (focus (show _=_;first|exact k1 rfl|exact k2 rfl|(simp only[zz,y37,e_c,e_ii,Nat.reduceAdd,Nat.reduceMul,Nat.reduceLeDiff,Nat.reduceEqDiff,aB,Nat.zero_add,z5,Int.reduceToNat,Int.reduceLE,Int.reduceLT,Int.cast_ofNat_Int,tload,aV,aS,List.getElem?_map,h8,h9m,h9l,h9a]<;>exact rfl)|exact rfl)));(with_reducible apply TO.here))|((with_reducible apply TX.region);(focus (simp only[zl]<;>exact rfl));(focus rfl);(try dsimp only))|fail)
    obtain⟨v14,h10,hr⟩:=bs hr
    have T:=an h9m T
    have T:=an h9l T
    have T:=an h9a T
    apply TO.cal (wn T) rfl Gq (oH h10) rfl rfl rfl
    repeat exact sd T
    refine wa_ T (g:=?_)
    rcases ifs hr with⟨h11,hr⟩|⟨h11,hr⟩
    ·have T:=an h11 T
     refine wa_ T (g:=?_)
     cases hr
     refine⟨rfl,?_⟩
     exact wk_ T [] rfl .nil
    ·repeat (first|(with_reducible first|refine mv ?_|refine TO.nil ?_)|((with_reducible first|apply TO.mv|apply TO.ia|apply TO.ia|apply TO.ld);(repeat (focus (show _=_;first|exact k1 rfl|exact k2 rfl|(simp only[zz,y37,e_c,e_ii,Nat.reduceAdd,Nat.reduceMul,Nat.reduceLeDiff,Nat.reduceEqDiff,aB,Nat.zero_add,z5,Int.reduceToNat,Int.reduceLE,Int.reduceLT,Int.cast_ofNat_Int,tload,aV,aS,List.getElem?_map,h8,h9m,h9l,h9a,h11]<;>exact rfl)|exact rfl)));(with_reducible apply TO.here))|((with_reducible apply TX.region);(focus (simp only[zl]<;>exact rfl));(focus rfl);(try dsimp only))|fail)
     obtain⟨v15,h12,hr⟩:=bs hr
     have T:=an h11 T
     apply TO.cal (wn T) rfl Gq (oH h12) rfl rfl rfl
     repeat exact sd T
     refine wa_ T (g:=?_)
     rcases ifs hr with⟨h13,hr⟩|⟨h13,hr⟩
     ·have T:=an h13 T
      refine wa_ T (g:=?_)
      cases hr
      refine⟨rfl,?_⟩
      exact wk_ T [] rfl .nil
     ·repeat (first|(with_reducible first|refine mv ?_|refine TD.nil ?_)|((with_reducible first|apply TD.mv|apply TD.ia|apply TD.ia|apply TD.ld );(repeat (focus (show _=_;first|exact k1 rfl|exact k2 rfl|(simp only[zz,y37,e_c,e_ii,Nat.reduceAdd,Nat.reduceMul,Nat.reduceLeDiff,Nat.reduceEqDiff,aB,Nat.zero_add,z5,Int.reduceToNat,Int.reduceLE,Int.reduceLT,Int.cast_ofNat_Int,tload,aV,aS,List.getElem?_map,h8,h9m,h9l,h9a,h11,h13]<;>exact rfl)|exact rfl)));(with_reducible refine TD.here ?_))|((with_reducible apply TX.drawn);(focus decide +kernel);(focus (simp only[zl]<;>exact rfl));(focus exact rfl);(try dsimp only))|((with_reducible apply TX.cond_true);(focus rfl);(focus (first|rfl|(simp only[z1,zn,h8,h9m,h9l,h9a,h11,h13];done))))|((with_reducible apply TX.cond_false);(focus rfl);(focus (first|rfl|(simp only[z1,zn,h8,h9m,h9l,h9a,h11,h13];done))))|fail)
      have T:=an h13 T
      apply TD.pop1 (wn T) (cX un3 un51 rfl)
      repeat exact sd T
      repeat (first|(with_reducible first|refine mv ?_|refine TD.nil ?_)|((with_reducible first|apply TD.mv|apply TD.ia|apply TD.ia|apply TD.ld );(repeat (focus (show _=_;first|exact k1 rfl|exact k2 rfl|(simp only[zz,y37,e_c,e_ii,Nat.reduceAdd,Nat.reduceMul,Nat.reduceLeDiff,Nat.reduceEqDiff,aB,Nat.zero_add,z5,Int.reduceToNat,Int.reduceLE,Int.reduceLT,Int.cast_ofNat_Int,tload,aV,aS,List.getElem?_map,h8,h9m,h9l,h9a,h11,h13]<;>exact rfl)|exact rfl)));(with_reducible refine TD.here ?_))|((with_reducible apply TX.drawn);(focus decide +kernel);(focus (simp only[zl]<;>exact rfl));(focus exact rfl);(try dsimp only))|fail)
      apply TD.pop1 (wn T) (cX un3 un51 rfl)
      repeat exact sd T
      refine wa_ T (g:=?_)
      apply TD.pop1 (wn T) (nZ rfl rfl)
      repeat exact sd T
      refine wa_ T (g:=?_)
      apply TD.bm e_c ([((FloatKind.f32.nearest v12),(FloatKind.f32.nearest v13))]:List (Nat×Nat)) (wn T) rfl (by simp only[zz,y37,e_c,e_ii,Nat.reduceAdd,Nat.reduceMul,Nat.reduceLeDiff,Nat.reduceEqDiff,tslice,tparts,h8,h9m,h9l,h9a,h11,h13];exact rfl) rfl
      repeat exact sd T
      refine wa_ T (g:=?_)
      obtain⟨v16,h14,hr⟩:=bs hr
      apply TD.ap (f:=e_c) (xs:=v4) (ys:=([((FloatKind.f32.nearest v12),(FloatKind.f32.nearest v13))]:List (Nat×Nat))) (wn T) rfl rfl (by first|rfl|simp only[List.length_set]) rfl rfl so31 ni31 zc49 rfl (by rw[by49];exact h14) (fun _=>⟨rfl,rfl,rfl⟩) rfl
      repeat exact sd T
      refine wa_ T (g:=?_)
      cases hr
      refine⟨rfl,?_⟩
      exact wk_ T [some 0] rfl (.rows .nil rfl rfl)
   ·have T:=an h8 T
    refine wa_ T (g:=?_)
    cases hr
    refine⟨rfl,?_⟩
    exact wk_ T [some 0] rfl (.rows .nil rfl rfl)
  ·intro e h;rcases e with _|e<;>cases h
  ·try dsimp only
   rcases v17 with _|v18
   ·try dsimp only at hr
    try dsimp only
    refine wa_ T (g:=?_)
    cases hr
    refine⟨.inr rfl,_,(ry T),?_⟩
    exact wr [none] rfl (.virt .nil)
   ·try dsimp only at hr
    try dsimp only
    refine wa_ T (g:=?_)
    cases hr
    refine⟨.inr rfl,_,(ry T),?_⟩
    exact wr [some 0] rfl (.rows .nil rfl rfl)
  ·try dsimp only
   exact wr [some 0] rfl (.rows .nil rfl rfl)
 rfl
end Go.Rex
namespace Go.Rex
open Go.Proofs
open Go Go.Rex Go.RowKit
set_option maxRecDepth 100000
set_option maxHeartbeats 200000
theorem tK{v1:(List (Int×Int))}{v2:(List (Nat×Nat))}{v3:Int}(hr:iQ v1=some (v2,v3)):Spec (lim Try.prog) 47 [.list 2 (v1.map e_ii)] ⟨[.tuple [.lsl 0 0 v2.length,.v (.int .i64 v3)]],[.rows 1 (v2.map e_c)]⟩:=by
 unfold iQ at hr
 have T:=an @e_c.eq_1 <| @e_ii.eq_1
 apply Spec.fn Try.func47 rfl
 focus (simp[Try.f47]<;>exact rfl)
 focus
  refine wa_ T (g:=?_)
  obtain⟨⟨v4,v5⟩,h1,hr⟩:=bs hr
  try dsimp only at hr
  apply TO.cal (wn T) rfl Nh (pS h1) rfl rfl rfl
  repeat exact sd T
  refine wa_ T (g:=?_)
  apply TO.pop1 (wn T) (bU rfl)
  repeat exact sd T
  refine wa_ T (g:=?_)
  rcases ifs hr with⟨h2,hr⟩|⟨h2,hr⟩
  ·have T:=an h2 T
   refine wa_ T (g:=?_)
   cases hr
   refine⟨.inr rfl,_,(ry T),?_⟩
   exact wk_ T [some 0] rfl (.rows .nil rfl rfl)
  ·have T:=an h2 T
   refine wa_ T (g:=?_)
   cases hr
   refine⟨.inr rfl,_,(ry T),?_⟩
   exact wk_ T [none] rfl (.virt .nil)
 rfl
end Go.Rex
namespace Go.Rex
open Go.Proofs
open Go Go.Rex Go.RowKit
set_option maxRecDepth 100000
set_option maxHeartbeats 1000000
def y38:=an @ag3 <| an @ag31 <| an @ar47 <| an @by47 <| an @cs3 <| an @cs31 <| an @cs47 <| an @ok3 <| an @ok31 <| an @ok47 <| an @so31 <| an @so46 <| an @so47 <| an @so55 <| an @st47 <| an @zc47 <| @bH
theorem jS{v1:(List (List (Nat×Nat)))}{v2:(List (Nat×Nat))}{v3:Int}(hr:cZ v1=some (v2,v3)):Spec (lim Try.prog) 27 [.list 1 (v1.map e_Lc_)] ⟨[.tuple [.lsl 0 0 v2.length,.v (.int .i64 v3)]],[.rows 1 (v2.map e_c)]⟩:=by
 unfold cZ at hr
 have T:=an y38 <| an @e_Lc_.eq_1 <| an @e_c.eq_1 <| @e_ii.eq_1
 apply Spec.fn Try.func27 rfl
 focus (simp[Try.f27]<;>exact rfl)
 focus
  refine wc_ T (g:=?_)
  rcases ifs hr with⟨h1,hr⟩|⟨h1,hr⟩
  ·have T:=an h1 T
   refine wa_ T (g:=?_)
   cases hr
   refine⟨.inr rfl,_,(ry T),?_⟩
   exact wk_ T [none] rfl (.virt .nil)
  ·have T:=an h1 T
   refine wc_ T (g:=?_)
   rcases ifs hr with⟨h2,hr⟩|⟨h2,hr⟩
   ·have T:=an h2 T
    refine wa_ T (g:=?_)
    cases hr
    refine⟨.inr rfl,_,(ry T),?_⟩
    exact wk_ T [none] rfl (.virt .nil)
   ·have T:=an h2 T
    refine wa_ T (g:=?_)
    obtain⟨v12,h15,hr⟩:=bs hr
    refine TX.loopE (step:=bZ v1) (x:=0) h15 (fun v4=>⟨.list 1 (v1.map e_Lc_)::.Z::.Z::.Z::.v (.int .i64 v4)::.Z::.Z::.Z::.Z::.Z::.Z::.Z::.Z::.Z::.Z::.Z::.Z::.Z::.Z::.Z::.Z::.Z::.Z::.Z::.Z::.Z::.Z::.Z::.Z::.Z::.Z::.Z::.Z::.Z::.Z::.Z::.Z::.Z::.Z::.Z::.Z::.Z::.Z::.Z::.Z::.Z::.Z::.Z::.Z::.Z::.Z::.Z::.Z::.Z::.Z::.Z::.Z::.Z::.Z::.Z::.Z::.Z::.Z::.Z::.Z::.Z::.Z::.Z::.Z::.Z::.Z::.Z::.Z::.Z::.Z::.Z::.Z::.Z::.Z::.Z::.Z::.Z::.Z::.Z::.Z::.Z::.Z::.Z::.Z::.Z::.Z::.Z::.Z::.Z::.Z::.Z::.Z::.Z::.Z::.Z::.Z::.Z::.Z::.Z::.Z::.Z::.Z::.Z::.Z::.Z::.Z::.Z::.Z::.Z::.Z::.Z::.Z::.Z::.Z::.Z::.Z::.Z::.Z::.Z::.Z::.Z::.Z::.Z::[],[]⟩) (fun e=>match e with|(.inl v8)=>(.ret,⟨.Z::.Z::.v (.slice none 0 0)::.v (.int .i64 v8)::.Z::.Z::.Z::.Z::.Z::.Z::.Z::.Z::.Z::.Z::.Z::.Z::.Z::.Z::.Z::.Z::.Z::.Z::.Z::.Z::.Z::.Z::.Z::.Z::.Z::.Z::.Z::.Z::.Z::.Z::.Z::.Z::.Z::.Z::.Z::.Z::.Z::.Z::.Z::.Z::.Z::.Z::.Z::.Z::.Z::.Z::.Z::.Z::.Z::.Z::.Z::.Z::.Z::.Z::.Z::.Z::.Z::.Z::.Z::.Z::.Z::.Z::.Z::.Z::.Z::.Z::.Z::.Z::.Z::.Z::.Z::.Z::.Z::.Z::.Z::.Z::.Z::.Z::.Z::.Z::.Z::.Z::.Z::.Z::.Z::.Z::.Z::.Z::.Z::.Z::.Z::.Z::.Z::.Z::.Z::.Z::.Z::.Z::.Z::.Z::.Z::.Z::.Z::.Z::.Z::.Z::.Z::.Z::.Z::.Z::.Z::.Z::.Z::.Z::.Z::.Z::.Z::.Z::.Z::.Z::.Z::.Z::.Z::.Z::[],[]⟩)|(.inr _)=>(.exit 0,⟨.list 1 (v1.map e_Lc_)::.Z::.Z::.Z::.Z::.Z::.Z::.Z::.Z::.Z::.Z::.Z::.Z::.Z::.Z::.Z::.Z::.Z::.Z::.Z::.Z::.Z::.Z::.Z::.Z::.Z::.Z::.Z::.Z::.Z::.Z::.Z::.Z::.Z::.Z::.Z::.Z::.Z::.Z::.Z::.Z::.Z::.Z::.Z::.Z::.Z::.Z::.Z::.Z::.Z::.Z::.Z::.Z::.Z::.Z::.Z::.Z::.Z::.Z::.Z::.Z::.Z::.Z::.Z::.Z::.Z::.Z::.Z::.Z::.Z::.Z::.Z::.Z::.Z::.Z::.Z::.Z::.Z::.Z::.Z::.Z::.Z::.Z::.Z::.Z::.Z::.Z::.Z::.Z::.Z::.Z::.Z::.Z::.Z::.Z::.Z::.Z::.Z::.Z::.Z::.Z::.Z::.Z::.Z::.Z::.Z::.Z::.Z::.Z::.Z::.Z::.Z::.Z::.Z::.Z::.Z::.Z::.Z::.Z::.Z::.Z::.Z::.Z::.Z::.Z::.Z::.Z::.Z::[],[]⟩)) ?_ ?_ ?_ ?_
    ·rintro v4 v0 hr
     dsimp only[bZ] at hr
     try dsimp only
     refine wc_ T (g:=?_)
     rcases ifs hr with⟨h9,hr⟩|⟨h9,hr⟩
     ·have T:=an h9 T
      refine wa_ T (g:=?_)
      obtain⟨v9,h10,hr⟩:=bs hr
      have T:=an (gx e_Lc_ h10) T
      refine wA T (g:=?_)
      obtain⟨v10,h11,hr⟩:=bs hr
      apply TO.cal (wn T) rfl Jv (kJ h11) rfl rfl rfl
      repeat exact sd T
      refine wa_ T (g:=?_)
      rcases ifs hr with⟨h12,hr⟩|⟨h12,hr⟩
      ·have T:=an h12 T
       refine wa_ T (g:=?_)
       cases hr
       refine⟨rfl,?_⟩
       exact wk_ T [] rfl .nil
      ·have T:=an h12 T
       refine wC T (g:=?_)
       obtain⟨v11,h13,hr⟩:=bs hr
       have T:=an (gx e_Lc_ h13) T
       refine wC T (g:=?_)
       rcases ifs hr with⟨h14,hr⟩|⟨h14,hr⟩
       ·have T:=an h14 T
        refine wa_ T (g:=?_)
        cases hr
        refine⟨rfl,?_⟩
        exact wk_ T [] rfl .nil
       ·have T:=an h14 T
        refine wa_ T (g:=?_)
        cases hr
        refine⟨rfl,?_⟩
        exact wk_ T [] rfl .nil
     ·have T:=an h9 T
      refine wa_ T (g:=?_)
      cases hr
      refine⟨rfl,?_⟩
      exact wk_ T [] rfl .nil
    ·intro e h;rcases e with _|e<;>cases h
    ·try dsimp only
     rcases v12 with v13|_
     ·try dsimp only at hr
      try dsimp only
      refine wa_ T (g:=?_)
      cases hr
      refine⟨.inr rfl,_,(ry T),?_⟩
      exact wk_ T [none] rfl (.virt .nil)
     ·try dsimp only at hr
      try dsimp only
      refine wa_ T (g:=?_)
      obtain⟨v14,h16,hr⟩:=bs hr
      have h16m:=cR (f:=e_Lc_) h16
      have h16l:=cV h16
      try simp only[List.length_set] at h16l
      have h16a:=dE h16
      have T:=an h16m T
      have T:=an h16l T
      have T:=an h16a T
      refine wC T (g:=?_)
      obtain⟨v15,h17,hr⟩:=bs hr
      apply TO.mk e_ii h17 (wn T) rfl rfl so46 zc47 by47 rfl rfl rfl
      repeat exact sd T
      refine wa_ T (g:=?_)
      obtain⟨v47,h38,hr⟩:=bs hr
      refine TX.loopE (step:=cG v1) (x:=(v15,0)) h38 (fun (v16,v17)=>⟨.list 1 (v1.map e_Lc_)::.Z::.Z::.Z::.Z::.Z::.lsl 0 0 v16.length::.v (.int .i64 v17)::.Z::.Z::.Z::.Z::.Z::.Z::.Z::.Z::.Z::.Z::.Z::.Z::.Z::.Z::.Z::.Z::.Z::.Z::.Z::.Z::.Z::.Z::.Z::.Z::.Z::.Z::.Z::.Z::.Z::.Z::.Z::.Z::.Z::.Z::.Z::.Z::.Z::.Z::.Z::.Z::.Z::.Z::.Z::.Z::.Z::.Z::.Z::.Z::.Z::.Z::.Z::.Z::.Z::.Z::.Z::.Z::.Z::.Z::.Z::.Z::.Z::.Z::.Z::.Z::.Z::.Z::.Z::.Z::.Z::.Z::.Z::.Z::.Z::.Z::.Z::.Z::.Z::.Z::.Z::.Z::.Z::.Z::.Z::.Z::.Z::.Z::.Z::.Z::.Z::.Z::.Z::.Z::.Z::.Z::.Z::.Z::.Z::.Z::.Z::.Z::.Z::.Z::.Z::.Z::.Z::.Z::.Z::.Z::.Z::.Z::.Z::.Z::.Z::.Z::.Z::.Z::.Z::.Z::.Z::.Z::[],[.rows 2 (v16.map e_ii)]⟩) (fun v32=>(.exit 2,⟨.list 1 (v1.map e_Lc_)::.Z::.Z::.Z::.Z::.Z::.lsl 0 0 v32.length::.Z::.Z::.Z::.Z::.Z::.Z::.Z::.Z::.Z::.Z::.Z::.Z::.Z::.Z::.Z::.Z::.Z::.Z::.Z::.Z::.Z::.Z::.Z::.Z::.Z::.Z::.Z::.Z::.Z::.Z::.Z::.Z::.Z::.Z::.Z::.Z::.Z::.Z::.Z::.Z::.Z::.Z::.Z::.Z::.Z::.Z::.Z::.Z::.Z::.Z::.Z::.Z::.Z::.Z::.Z::.Z::.Z::.Z::.Z::.Z::.Z::.Z::.Z::.Z::.Z::.Z::.Z::.Z::.Z::.Z::.Z::.Z::.Z::.Z::.Z::.Z::.Z::.Z::.Z::.Z::.Z::.Z::.Z::.Z::.Z::.Z::.Z::.Z::.Z::.Z::.Z::.Z::.Z::.Z::.Z::.Z::.Z::.Z::.Z::.Z::.Z::.Z::.Z::.Z::.Z::.Z::.Z::.Z::.Z::.Z::.Z::.Z::.Z::.Z::.Z::.Z::.Z::.Z::.Z::.Z::.Z::[],[.rows 2 (v32.map e_ii)]⟩)) ?_ ?_ ?_ ?_
      ·rintro⟨v16,v17⟩ v0 hr
       dsimp only[cG] at hr
       try dsimp only
       refine wc_ T (g:=?_)
       rcases ifs hr with⟨h28,hr⟩|⟨h28,hr⟩
       ·have T:=an h28 T
        refine wa_ T (g:=?_)
        obtain⟨v33,h29,hr⟩:=bs hr
        have h29m:=cR (f:=e_Lc_) h29
        have h29l:=cV h29
        try simp only[List.length_set] at h29l
        have h29a:=dE h29
        have T:=an h29m T
        have T:=an h29l T
        have T:=an h29a T
        refine wA T (g:=?_)
        obtain⟨v34,h30,hr⟩:=bs hr
        apply TO.cal (wn T) rfl Hd (lT h30) rfl rfl rfl
        repeat exact sd T
        refine wa_ T (g:=?_)
        obtain⟨v46,h37,hr⟩:=bs hr
        refine TX.loopE (step:=cB v34) (x:=(v16,0)) h37 (fun (v35,v36)=>⟨.list 1 (v1.map e_Lc_)::.Z::.Z::.Z::.Z::.Z::.lsl 0 0 v35.length::.v (.int .i64 v17)::.lsl 1 0 v34.length::.v (.int .i64 v36)::.Z::.Z::.Z::.Z::.Z::.Z::.Z::.Z::.Z::.Z::.Z::.Z::.Z::.Z::.Z::.Z::.Z::.Z::.Z::.Z::.Z::.Z::.Z::.Z::.Z::.Z::.Z::.Z::.Z::.Z::.Z::.Z::.Z::.Z::.Z::.Z::.Z::.Z::.Z::.Z::.Z::.Z::.Z::.Z::.Z::.Z::.Z::.Z::.Z::.Z::.Z::.Z::.Z::.Z::.Z::.Z::.Z::.Z::.Z::.Z::.Z::.Z::.Z::.Z::.Z::.Z::.Z::.Z::.Z::.Z::.Z::.Z::.Z::.Z::.Z::.Z::.Z::.Z::.Z::.Z::.Z::.Z::.Z::.Z::.Z::.Z::.Z::.Z::.Z::.Z::.Z::.Z::.Z::.Z::.Z::.Z::.Z::.Z::.Z::.Z::.Z::.Z::.Z::.Z::.Z::.Z::.Z::.Z::.Z::.Z::.Z::.Z::.Z::.Z::.Z::.Z::.Z::.Z::[],[.rows 2 (v35.map e_ii),.rows 2 (v34.map e_ii)]⟩) (fun v41=>(.exit 4,⟨.list 1 (v1.map e_Lc_)::.Z::.Z::.Z::.Z::.Z::.lsl 0 0 v41.length::.v (.int .i64 v17)::.Z::.Z::.Z::.Z::.Z::.Z::.Z::.Z::.Z::.Z::.Z::.Z::.Z::.Z::.Z::.Z::.Z::.Z::.Z::.Z::.Z::.Z::.Z::.Z::.Z::.Z::.Z::.Z::.Z::.Z::.Z::.Z::.Z::.Z::.Z::.Z::.Z::.Z::.Z::.Z::.Z::.Z::.Z::.Z::.Z::.Z::.Z::.Z::.Z::.Z::.Z::.Z::.Z::.Z::.Z::.Z::.Z::.Z::.Z::.Z::.Z::.Z::.Z::.Z::.Z::.Z::.Z::.Z::.Z::.Z::.Z::.Z::.Z::.Z::.Z::.Z::.Z::.Z::.Z::.Z::.Z::.Z::.Z::.Z::.Z::.Z::.Z::.Z::.Z::.Z::.Z::.Z::.Z::.Z::.Z::.Z::.Z::.Z::.Z::.Z::.Z::.Z::.Z::.Z::.Z::.Z::.Z::.Z::.Z::.Z::.Z::.Z::.Z::.Z::.Z::.Z::.Z::.Z::.Z::.Z::[],[.rows 2 (v41.map e_ii)]⟩)) ?_ ?_ ?_ ?_
        ·rintro⟨v35,v36⟩ v0 hr
         dsimp only[cB] at hr
         try dsimp only
         refine wc_ T (g:=?_)
         rcases ifs hr with⟨h34,hr⟩|⟨h34,hr⟩
         ·have T:=an h34 T
          refine wa_ T (g:=?_)
          obtain⟨⟨v42,v43⟩,h35,hr⟩:=bs hr
          try dsimp only at hr
          have h35m:=cR (f:=e_ii) h35
          have h35l:=cV h35
          try simp only[List.length_set] at h35l
          have h35a:=dE h35
          repeat (first|(with_reducible first|refine mv ?_|refine TD.nil ?_)|((with_reducible first|apply TD.ia|apply TD.ia|apply TD.ld|apply TD.mv);(repeat (focus (show _=_;first|exact k1 rfl|exact k2 rfl|(simp only[zz,y38,e_Lc_,e_c,e_ii,Nat.reduceAdd,Nat.reduceMul,Nat.reduceLeDiff,Nat.reduceEqDiff,aB,Nat.zero_add,z5,Int.reduceToNat,Int.reduceLE,Int.reduceLT,Int.cast_ofNat_Int,tload,aV,aS,List.getElem?_map,h1,h2,h16m,h16l,h16a,h28,h29m,h29l,h29a,h34,h35m,h35l,h35a]<;>exact rfl)|exact rfl)));(with_reducible refine TD.here ?_))|((with_reducible apply TX.drawn);(focus decide +kernel);(focus (simp only[zl]<;>exact rfl));(focus exact rfl);(try dsimp only))|fail)
          obtain⟨⟨v44,v45⟩,h36,hr⟩:=bs hr
          try dsimp only at hr
          have h36m:=cR (f:=e_ii) h36
          have h36l:=cV h36
          try simp only[List.length_set] at h36l
          have h36a:=dE h36
          repeat (first|(with_reducible first|refine mv ?_|refine TD.nil ?_)|((with_reducible first|apply TD.ia|apply TD.ia|apply TD.ld|apply TD.bin|apply TD.mv|apply TD.bld);(repeat (focus (show _=_;first|exact k1 rfl|exact k2 rfl|(simp only[zz,y38,e_Lc_,e_c,e_ii,Nat.reduceAdd,Nat.reduceMul,Nat.reduceLeDiff,Nat.reduceEqDiff,aB,Nat.zero_add,z5,Int.reduceToNat,Int.reduceLE,Int.reduceLT,Int.cast_ofNat_Int,tload,aV,aS,List.getElem?_map,tbuild,tfill,h1,h2,h16m,h16l,h16a,h28,h29m,h29l,h29a,h34,h35m,h35l,h35a,h36m,h36l,h36a]<;>exact rfl)|exact rfl)));(with_reducible refine TD.here ?_))|((with_reducible apply TX.drawn);(focus decide +kernel);(focus (simp only[zl]<;>exact rfl));(focus exact rfl);(try dsimp only))|fail)
          have T:=an h35m T
          have T:=an h35l T
          have T:=an h35a T
          have T:=an h36m T
          have T:=an h36l T
          have T:=an h36a T
          apply TD.sr e_ii v35 (v42,v43) ((IntKind.i64.wrap (v42+v44)),(IntKind.i64.wrap (v43+v45))) h35a (wn T) rfl rfl rfl rfl rfl ok47 (by rw[cs47];rfl) rfl rfl rfl rfl rfl
          repeat exact sd T
          refine wa_ T (g:=?_)
          cases hr
          refine⟨rfl,?_⟩
          exact wk_ T [some 0,some 1] rfl (.rows (.rows .nil rfl rfl) rfl rfl)
         ·have T:=an h34 T
          refine wa_ T (g:=?_)
          cases hr
          refine⟨rfl,?_⟩
          exact wk_ T [some 0] rfl (.rows .nil rfl rfl)
        ·intro e h;cases h
        ·try dsimp only
         refine wa_ T (g:=?_)
         cases hr
         refine⟨rfl,?_⟩
         exact wk_ T [some 0] rfl (.rows .nil rfl rfl)
        ·try dsimp only
         exact wk_ T [some 0,some 1] rfl (.rows (.rows .nil rfl rfl) rfl rfl)
       ·have T:=an h28 T
        refine wa_ T (g:=?_)
        cases hr
        refine⟨rfl,?_⟩
        exact wk_ T [some 0] rfl (.rows .nil rfl rfl)
      ·intro e h;cases h
      ·try dsimp only
       refine wc_ T (g:=?_)
       obtain⟨v59,h47,hr⟩:=bs hr
       refine TX.loopE (step:=bY v1) (x:=(v47,0)) h47 (fun (v48,v49)=>⟨.Z::.Z::.Z::.Z::.Z::.Z::.lsl 0 0 v48.length::.Z::.Z::.Z::.v (.int .i64 (v1.length:Int))::.v (.int .i64 v49)::.Z::.Z::.Z::.Z::.Z::.Z::.Z::.Z::.Z::.Z::.Z::.Z::.Z::.Z::.Z::.Z::.Z::.Z::.Z::.Z::.Z::.Z::.Z::.Z::.Z::.Z::.Z::.Z::.Z::.Z::.Z::.Z::.Z::.Z::.Z::.Z::.Z::.Z::.Z::.Z::.Z::.Z::.Z::.Z::.Z::.Z::.Z::.Z::.Z::.Z::.Z::.Z::.Z::.Z::.Z::.Z::.Z::.Z::.Z::.Z::.Z::.Z::.Z::.Z::.Z::.Z::.Z::.Z::.Z::.Z::.Z::.Z::.Z::.Z::.Z::.Z::.Z::.Z::.Z::.Z::.Z::.Z::.Z::.Z::.Z::.Z::.Z::.Z::.Z::.Z::.Z::.Z::.Z::.Z::.Z::.Z::.Z::.Z::.Z::.Z::.Z::.Z::.Z::.Z::.Z::.Z::.Z::.Z::.Z::.Z::.Z::.Z::.Z::.Z::.Z::.Z::[],[.rows 2 (v48.map e_ii)]⟩) (fun v54=>(.exit 6,⟨.Z::.Z::.Z::.Z::.Z::.Z::.lsl 0 0 v54.length::.Z::.Z::.Z::.Z::.Z::.Z::.Z::.Z::.Z::.Z::.Z::.Z::.Z::.Z::.Z::.Z::.Z::.Z::.Z::.Z::.Z::.Z::.Z::.Z::.Z::.Z::.Z::.Z::.Z::.Z::.Z::.Z::.Z::.Z::.Z::.Z::.Z::.Z::.Z::.Z::.Z::.Z::.Z::.Z::.Z::.Z::.Z::.Z::.Z::.Z::.Z::.Z::.Z::.Z::.Z::.Z::.Z::.Z::.Z::.Z::.Z::.Z::.Z::.Z::.Z::.Z::.Z::.Z::.Z::.Z::.Z::.Z::.Z::.Z::.Z::.Z::.Z::.Z::.Z::.Z::.Z::.Z::.Z::.Z::.Z::.Z::.Z::.Z::.Z::.Z::.Z::.Z::.Z::.Z::.Z::.Z::.Z::.Z::.Z::.Z::.Z::.Z::.Z::.Z::.Z::.Z::.Z::.Z::.Z::.Z::.Z::.Z::.Z::.Z::.Z::.Z::.Z::.Z::.Z::.Z::.Z::[],[.rows 2 (v54.map e_ii)]⟩)) ?_ ?_ ?_ ?_
       ·rintro⟨v48,v49⟩ v0 hr
        dsimp only[bY] at hr
        try dsimp only
        refine wc_ T (g:=?_)
        rcases ifs hr with⟨h43,hr⟩|⟨h43,hr⟩
        ·have T:=an h43 T
         refine wa_ T (g:=?_)
         obtain⟨⟨v55,v56⟩,h44,hr⟩:=bs hr
         try dsimp only at hr
         have h44m:=cR (f:=e_ii) h44
         have h44l:=cV h44
         try simp only[List.length_set] at h44l
         have h44a:=dE h44
         repeat (first|(with_reducible first|refine mv ?_|refine TD.nil ?_)|((with_reducible first|apply TD.ia|apply TD.ia|apply TD.ld|apply TD.bin|apply TD.mv);(repeat (focus (show _=_;first|exact k1 rfl|exact k2 rfl|(simp only[zz,y38,e_Lc_,e_c,e_ii,Nat.reduceAdd,Nat.reduceMul,Nat.reduceLeDiff,Nat.reduceEqDiff,aB,Nat.zero_add,z5,Int.reduceToNat,Int.reduceLE,Int.reduceLT,Int.cast_ofNat_Int,tload,aV,aS,List.getElem?_map,h1,h2,h16m,h16l,h16a,h43,h44m,h44l,h44a]<;>exact rfl)|exact rfl)));(with_reducible refine TD.here ?_))|((with_reducible apply TX.drawn);(focus decide +kernel);(focus (simp only[zl]<;>exact rfl));(focus exact rfl);(try dsimp only))|fail)
         obtain⟨v57,h45,hr⟩:=bs hr
         have T:=an h44m T
         have T:=an h44l T
         have T:=an h44a T
         apply TD.cal (wn T) rfl He (mX h45) rfl rfl rfl
         repeat exact sd T
         repeat (first|(with_reducible first|refine mv ?_|refine TD.nil ?_)|((with_reducible first|apply TD.mv|apply TD.ia|apply TD.ia|apply TD.ld|apply TD.bin);(repeat (focus (show _=_;first|exact k1 rfl|exact k2 rfl|(simp only[zz,y38,e_Lc_,e_c,e_ii,Nat.reduceAdd,Nat.reduceMul,Nat.reduceLeDiff,Nat.reduceEqDiff,aB,Nat.zero_add,z5,Int.reduceToNat,Int.reduceLE,Int.reduceLT,Int.cast_ofNat_Int,tload,aV,aS,List.getElem?_map,h1,h2,h16m,h16l,h16a,h43,h44m,h44l,h44a]<;>exact rfl)|exact rfl)));(with_reducible refine TD.here ?_))|((with_reducible apply TX.drawn);(focus decide +kernel);(focus (simp only[zl]<;>exact rfl));(focus exact rfl);(try dsimp only))|fail)
         obtain⟨v58,h46,hr⟩:=bs hr
         apply TD.cal (wn T) rfl He (mX h46) rfl rfl rfl
         repeat exact sd T
         refine wa_ T (g:=?_)
         apply TD.sr e_ii v48 (v55,v56) (v57,v58) h44a (wn T) rfl rfl rfl rfl rfl ok47 (by rw[cs47];rfl) rfl rfl rfl rfl rfl
         repeat exact sd T
         refine wa_ T (g:=?_)
         cases hr
         refine⟨rfl,?_⟩
         exact wk_ T [some 0] rfl (.rows .nil rfl rfl)
        ·have T:=an h43 T
         refine wa_ T (g:=?_)
         cases hr
         refine⟨rfl,?_⟩
         exact wk_ T [some 0] rfl (.rows .nil rfl rfl)
       ·intro e h;cases h
       ·try dsimp only
        refine wa_ T (g:=?_)
        obtain⟨⟨v60,v61⟩,h48,hr⟩:=bs hr
        try dsimp only at hr
        apply TO.lok (wn T) rfl Mo (tK h48) (vw T) rfl rfl (by simp[jM,cl,e_ff,e_c,e_ii,e_i,e_Lc_,e_f,e_Lff_])
        repeat exact sd T
        refine wa_ T (g:=?_)
        cases hr
        refine⟨.inr rfl,_,(ry T),?_⟩
        exact wk_ T [some 1] rfl (.rows .nil rfl rfl)
       ·try dsimp only
        exact wk_ T [some 0] rfl (.rows .nil rfl rfl)
      ·try dsimp only
       exact wk_ T [some 0] rfl (.rows .nil rfl rfl)
    ·try dsimp only
     exact wk_ T [] rfl .nil
 rfl
end Go.Rex
namespace Go.Rex
open Go.Proofs
open Go Go.Rex Go.RowKit
set_option maxRecDepth 100000
set_option maxHeartbeats 200000
def y39:=@ex97
theorem pT{v1:Nat}{v2:Nat}{v3:Nat}{v4:Nat}{v5:Bool}(hr:iX v1 v2 v3 v4=some (v5)):Spec (lim Try.prog) 54 [.v (.complex .f64 v1 v2),.v (.complex .f64 v3 v4)] ⟨[.v (.bool v5)],[]⟩:=by
 unfold iX at hr
 have T:=y39
 apply Spec.fn Try.func54 rfl
 focus (simp[Try.f54]<;>exact rfl)
 focus
  refine wa_ T (g:=?_)
  apply TO.pop1 (wn T) (lS rfl)
  repeat exact sd T
  refine wa_ T (g:=?_)
  obtain⟨v6,h1,hr⟩:=bs hr
  apply TO.fb (wn T) rfl ex97 (by simp only[z1,z3,zl]<;>rfl) h1 rfl
  repeat exact sd T
  refine wa_ T (g:=?_)
  apply TO.pop1 (wn T) (lS rfl)
  repeat exact sd T
  refine wa_ T (g:=?_)
  obtain⟨v7,h2,hr⟩:=bs hr
  apply TO.fb (wn T) rfl ex97 (by simp only[z1,z3,zl]<;>rfl) h2 rfl
  repeat exact sd T
  refine wa_ T (g:=?_)
  rcases ifs hr with⟨h3,hr⟩|⟨h3,hr⟩
  ·have T:=an h3 T
   refine wa_ T (g:=?_)
   apply TO.pop1 (wn T) (lZ rfl)
   repeat exact sd T
   refine wa_ T (g:=?_)
   obtain⟨v8,h4,hr⟩:=bs hr
   apply TO.fb (wn T) rfl ex97 (by simp only[z1,z3,zl]<;>rfl) h4 rfl
   repeat exact sd T
   refine wa_ T (g:=?_)
   apply TO.pop1 (wn T) (lZ rfl)
   repeat exact sd T
   refine wa_ T (g:=?_)
   obtain⟨v9,h5,hr⟩:=bs hr
   apply TO.fb (wn T) rfl ex97 (by simp only[z1,z3,zl]<;>rfl) h5 rfl
   repeat exact sd T
   refine wa_ T (g:=?_)
   cases hr
   refine⟨.inr rfl,_,(ry T),?_⟩
   exact wk_ T [] rfl .nil
  ·have T:=an h3 T
   refine wa_ T (g:=?_)
   cases hr
   refine⟨.inr rfl,_,(ry T),?_⟩
   exact wk_ T [] rfl .nil
 rfl
def y40:=an @ag49 <| an @cs49 <| an @ok49 <| an @so31 <| an @un105 <| an @un49 <| @bH
theorem iH{v1:(List (Nat×Nat))}{v2:(List (Nat×Nat))}{v3:Bool}(hr:bB v1 v2=some (v3)):Spec (lim Try.prog) 15 [.list 1 (v1.map e_c),.list 1 (v2.map e_c)] ⟨[.v (.bool v3)],[]⟩:=by
 unfold bB at hr
 have T:=an y40 <| @e_c.eq_1
 apply Spec.fn Try.func15 rfl
 focus (simp[Try.f15]<;>exact rfl)
 focus
  refine wc_ T (g:=?_)
  rcases ifs hr with⟨h1,hr⟩|⟨h1,hr⟩
  ·have T:=an h1 T
   refine wa_ T (g:=?_)
   cases hr
   refine⟨.inr rfl,_,(ry T),?_⟩
   exact wk_ T [] rfl .nil
  ·have T:=an h1 T
   refine wa_ T (g:=?_)
   obtain⟨v23,h20,hr⟩:=bs hr
   refine TX.loopE (step:=cM v1 v2) (x:=0) h20 (fun v4=>⟨.list 1 (v1.map e_c)::.list 1 (v2.map e_c)::.Z::.Z::.Z::.v (.int .i64 v4)::.Z::.Z::.Z::.Z::.Z::.Z::.Z::.Z::.Z::.Z::.Z::.Z::.Z::.Z::.Z::.Z::.Z::.Z::.Z::.Z::.Z::.Z::.Z::[],[]⟩) (fun e=>match e with|(.inl _)=>(.ret,⟨.Z::.Z::.Z::.Z::.v (.bool false)::.Z::.Z::.Z::.Z::.Z::.Z::.Z::.Z::.Z::.Z::.Z::.Z::.Z::.Z::.Z::.Z::.Z::.Z::.Z::.Z::.Z::.Z::.Z::.Z::[],[]⟩)|(.inr _)=>(.exit 0,⟨.Z::.Z::.Z::.Z::.Z::.Z::.Z::.Z::.Z::.Z::.Z::.Z::.Z::.Z::.Z::.Z::.Z::.Z::.Z::.Z::.Z::.Z::.Z::.Z::.Z::.Z::.Z::.Z::.Z::[],[]⟩)) ?_ ?_ ?_ ?_
   ·rintro v4 v0 hr
    dsimp only[cM] at hr
    try dsimp only
    refine wc_ T (g:=?_)
    rcases ifs hr with⟨h11,hr⟩|⟨h11,hr⟩
    ·have T:=an h11 T
     refine wa_ T (g:=?_)
     obtain⟨⟨v14,v15⟩,h12,hr⟩:=bs hr
     try dsimp only at hr
     have T:=an (gx e_c h12) T
     refine wA T (g:=?_)
     obtain⟨v16,h13,hr⟩:=bs hr
     obtain⟨v17,h14,hr⟩:=bs hr
     apply TD.pop1 (wn T) (sZ un49 un105 rfl h13 h14)
     repeat exact sd T
     refine wa_ T (g:=?_)
     obtain⟨⟨v18,v19⟩,h15,hr⟩:=bs hr
     try dsimp only at hr
     have T:=an (gx e_c h15) T
     refine wA T (g:=?_)
     obtain⟨v20,h16,hr⟩:=bs hr
     obtain⟨v21,h17,hr⟩:=bs hr
     apply TD.pop1 (wn T) (sZ un49 un105 rfl h16 h17)
     repeat exact sd T
     refine wa_ T (g:=?_)
     obtain⟨v22,h18,hr⟩:=bs hr
     apply TD.cal (wn T) rfl Mp (pT h18) rfl rfl rfl
     repeat exact sd T
     refine wa_ T (g:=?_)
     apply TD.pop1 (wn T) (bU rfl)
     repeat exact sd T
     refine wa_ T (g:=?_)
     rcases ifs hr with⟨h19,hr⟩|⟨h19,hr⟩
     ·have T:=an h19 T
      refine wa_ T (g:=?_)
      cases hr
      refine⟨rfl,?_⟩
      exact wk_ T [] rfl .nil
     ·have T:=an h19 T
      refine wa_ T (g:=?_)
      cases hr
      refine⟨rfl,?_⟩
      exact wk_ T [] rfl .nil
    ·have T:=an h11 T
     refine wa_ T (g:=?_)
     cases hr
     refine⟨rfl,?_⟩
     exact wk_ T [] rfl .nil
   ·intro e h;rcases e with _|e<;>cases h
   ·try dsimp only
    rcases v23 with _|_
    ·try dsimp only at hr
     try dsimp only
     refine wa_ T (g:=?_)
     cases hr
     refine⟨.inr rfl,_,(ry T),?_⟩
     exact wk_ T [] rfl .nil
    ·try dsimp only at hr
     try dsimp only
     refine wa_ T (g:=?_)
     cases hr
     refine⟨.inr rfl,_,(ry T),?_⟩
     exact wk_ T [] rfl .nil
   ·try dsimp only
    exact wk_ T [] rfl .nil
 rfl
end Go.Rex
namespace Go.Rex
open Go.Proofs
open Go Go.Rex Go.RowKit
set_option maxRecDepth 100000
theorem follows:Try.prog.follows .mixedOrders=true:=by decide +kernel
theorem awake_true:AwT Try.prog 7:=yJ follows (k:=1000) (d:=50) (by decide +kernel)
end Go.Rex
namespace Go.Rex
open Go.Proofs
open Go Go.Rex Go.RowKit
set_option maxRecDepth 100000
set_option maxHeartbeats 4000000
def y41:=an @ag23 <| an @ag58 <| an @ar59 <| an @by31 <| an @cs23 <| an @cs31 <| an @cs58 <| an @cs59 <| an @ni55 <| an @ok23 <| an @ok58 <| an @ok59 <| an @so54 <| an @so55 <| an @so59 <| an @zc31 <| an @zc59 <| @bH
theorem nQ{v1:(List (List (Nat×Nat)))}{v2:Int}(hr:fZ v1 v2=some true){Fz:Nat→Prop}{h:List Blk}{vs:List Value}(hfz:FZ Fz h)(hargs:VLs Fz h noL [.list 1 (v1.map e_Lff_),.v (.int .i64 v2)] vs)
 {B lo:Nat} {D:Nat→Prop} {m:NMap} {w:World} {args':List Value} (hrel:Rel B lo D m h w) (hlo:lo≤h.length) (hargs':VRs D m vs args'):Calls Try.prog 6 ⟨args'⟩ w (fun e w'=>e = .returned (.bool true)∧Below w.heap.size w w'):=by
 unfold fZ at hr
 have T:=an y41 <| an @e_Lc_.eq_1 <| an @e_Lff_.eq_1 <| an @e_c.eq_1 <| @e_ff.eq_1
 refine Lu follows awake_true Try.func6 rfl (tm0:=.list 1 (v1.map e_Lff_)::.v (.int .i64 v2)::.Z::.Z::.Z::.Z::.Z::.Z::.Z::.Z::.Z::.Z::.Z::.Z::.Z::.Z::.Z::.Z::.Z::.Z::.Z::.Z::.Z::.Z::.Z::.Z::.Z::.Z::.Z::.Z::.Z::.Z::.Z::.Z::.Z::.Z::.Z::.Z::.Z::.Z::.Z::.Z::.Z::.Z::.Z::.Z::.Z::.Z::.Z::.Z::.Z::.Z::.Z::.Z::.Z::.Z::.Z::.Z::.Z::.Z::.Z::.Z::.Z::.Z::.Z::.Z::.Z::.Z::.Z::.Z::.Z::.Z::.Z::.Z::.Z::.Z::.Z::.Z::.Z::.Z::.Z::.Z::.Z::.Z::.Z::.Z::.Z::.Z::.Z::.Z::.Z::.Z::.Z::.Z::.Z::.Z::.Z::.Z::.Z::.Z::.Z::.Z::.Z::.Z::.Z::.Z::.Z::[]) (by simp[Try.f6]<;>exact rfl) ?_ hfz hargs hrel hlo hargs'
 refine wa_ T (g:=?_)
 apply TO.cal (wn T) rfl Pk Spec.awake rfl rfl rfl
 repeat exact sd T
 refine wa_ T (g:=?_)
 apply TO.pop1 (wn T) (bU rfl)
 repeat exact sd T
 refine wc_ T (g:=?_)
 rcases ifs hr with⟨h1,hr⟩|⟨h1,hr⟩
 ·have T:=an h1 T
  refine wc_ T (g:=?_)
  rcases ifs hr with⟨h2,hr⟩|⟨h2,hr⟩
  ·have T:=an h2 T
   refine wa_ T (g:=?_)
   exact lv T hr
  ·have T:=an h2 T
   refine wc_ T (g:=?_)
   rcases ifs hr with⟨h3,hr⟩|⟨h3,hr⟩
   ·have T:=an h3 T
    refine wa_ T (g:=?_)
    exact lv T hr
   ·have T:=an h3 T
    refine wa_ T (g:=?_)
    apply TX.vt (α:=(List (Nat×Nat))) e_Lc_ 5 1 rfl
    repeat exact sd T
    with_reducible apply TX.here
    refine wa_ T (g:=?_)
    obtain⟨v44,h34,hr⟩:=bs hr
    refine TX.loopE (step:=bC v1 v2) (x:=(([]:List (List (Nat×Nat))),0)) h34 (fun (v4,v5)=>⟨.list 1 (v1.map e_Lff_)::.v (.int .i64 v2)::.Z::.Z::.Z::.lsl 0 0 v4.length::.v (.int .i64 v5)::.Z::.Z::.Z::.Z::.Z::.Z::.Z::.Z::.Z::.Z::.Z::.Z::.Z::.Z::.Z::.Z::.Z::.Z::.Z::.Z::.Z::.Z::.Z::.Z::.Z::.Z::.Z::.Z::.Z::.Z::.Z::.Z::.Z::.Z::.Z::.Z::.Z::.Z::.Z::.Z::.Z::.Z::.Z::.Z::.Z::.Z::.Z::.Z::.Z::.Z::.Z::.Z::.Z::.Z::.Z::.Z::.Z::.Z::.Z::.Z::.Z::.Z::.Z::.Z::.Z::.Z::.Z::.Z::.Z::.Z::.Z::.Z::.Z::.Z::.Z::.Z::.Z::.Z::.Z::.Z::.Z::.Z::.Z::.Z::.Z::.Z::.Z::.Z::.Z::.Z::.Z::.Z::.Z::.Z::.Z::.Z::.Z::.Z::.Z::.Z::[],[.rows 1 (v4.map e_Lc_)]⟩) (fun e=>match e with|(.inl v24)=>(.ret,⟨.Z::.Z::.Z::.Z::.v (.bool v24)::.Z::.Z::.Z::.Z::.Z::.Z::.Z::.Z::.Z::.Z::.Z::.Z::.Z::.Z::.Z::.Z::.Z::.Z::.Z::.Z::.Z::.Z::.Z::.Z::.Z::.Z::.Z::.Z::.Z::.Z::.Z::.Z::.Z::.Z::.Z::.Z::.Z::.Z::.Z::.Z::.Z::.Z::.Z::.Z::.Z::.Z::.Z::.Z::.Z::.Z::.Z::.Z::.Z::.Z::.Z::.Z::.Z::.Z::.Z::.Z::.Z::.Z::.Z::.Z::.Z::.Z::.Z::.Z::.Z::.Z::.Z::.Z::.Z::.Z::.Z::.Z::.Z::.Z::.Z::.Z::.Z::.Z::.Z::.Z::.Z::.Z::.Z::.Z::.Z::.Z::.Z::.Z::.Z::.Z::.Z::.Z::.Z::.Z::.Z::.Z::.Z::.Z::[],[]⟩)|(.inr v25)=>(.exit 0,⟨.Z::.Z::.Z::.Z::.Z::.lsl 0 0 v25.length::.Z::.Z::.Z::.Z::.Z::.Z::.Z::.Z::.Z::.Z::.Z::.Z::.Z::.Z::.Z::.Z::.Z::.Z::.Z::.Z::.Z::.Z::.Z::.Z::.Z::.Z::.Z::.Z::.Z::.Z::.Z::.Z::.Z::.Z::.Z::.Z::.Z::.Z::.Z::.Z::.Z::.Z::.Z::.Z::.Z::.Z::.Z::.Z::.Z::.Z::.Z::.Z::.Z::.Z::.Z::.Z::.Z::.Z::.Z::.Z::.Z::.Z::.Z::.Z::.Z::.Z::.Z::.Z::.Z::.Z::.Z::.Z::.Z::.Z::.Z::.Z::.Z::.Z::.Z::.Z::.Z::.Z::.Z::.Z::.Z::.Z::.Z::.Z::.Z::.Z::.Z::.Z::.Z::.Z::.Z::.Z::.Z::.Z::.Z::.Z::.Z::[],[.rows 1 (v25.map e_Lc_)]⟩)) ?_ ?_ ?_ ?_
    ·rintro⟨v4,v5⟩ v0 hr
     dsimp only[bC] at hr
     try dsimp only
     refine wc_ T (g:=?_)
     rcases ifs hr with⟨h19,hr⟩|⟨h19,hr⟩
     ·have T:=an h19 T
      refine wa_ T (g:=?_)
      obtain⟨v26,h20,hr⟩:=bs hr
      have h20m:=cR (f:=e_Lff_) h20
      have h20l:=cV h20
      try simp only[List.length_set] at h20l
      have h20a:=dE h20
      have T:=an h20m T
      have T:=an h20l T
      have T:=an h20a T
      refine wA T (g:=?_)
      obtain⟨v27,h21,hr⟩:=bs hr
      apply TO.cal (wn T) rfl Mb (Spec.ov (nW h21) (by decide)) rfl rfl rfl
      repeat exact sd T
      refine wa_ T (g:=?_)
      apply TO.pop1 (wn T) (bU rfl)
      repeat exact sd T
      refine wa_ T (g:=?_)
      rcases ifs hr with⟨h22,hr⟩|⟨h22,hr⟩
      ·have T:=an h22 T
       refine wA T (g:=?_)
       obtain⟨v28,h23,hr⟩:=bs hr
       apply TO.cal (wn T) rfl rU (Spec.ov (eC h23) (by decide)) rfl rfl rfl
       repeat exact sd T
       refine wa_ T (g:=?_)
       apply TO.frz 1 rfl rfl
       repeat exact sd T
       refine wa_ T (g:=?_)
       apply TO.bm e_Lc_ ([v28]:List (List (Nat×Nat))) (wn T) rfl (by simp only[zz,y41,e_Lc_,e_Lff_,e_c,e_ff,Nat.reduceAdd,Nat.reduceMul,Nat.reduceLeDiff,Nat.reduceEqDiff,tslice,tparts,h1,h2,h3,h19,h20m,h20l,h20a,h22];exact rfl) rfl
       repeat exact sd T
       refine wa_ T (g:=?_)
       obtain⟨v29,h24,hr⟩:=bs hr
       apply TO.ap (f:=e_Lc_) (xs:=v4) (ys:=([v28]:List (List (Nat×Nat)))) (wn T) rfl rfl (by first|rfl|simp only[List.length_set]) rfl rfl so55 ni55 zc31 rfl (by rw[by31];exact h24) (fun _=>⟨rfl,rfl,rfl⟩)
       repeat exact sd T
       refine wA T (g:=?_)
       obtain⟨v30,h25,hr⟩:=bs hr
       apply TO.cal (wn T) rfl rU (Spec.ov (eC h25) (by decide)) rfl rfl rfl
       repeat exact sd T
       refine wa_ T (g:=?_)
       obtain⟨⟨v31,v32,v33,v34,v35⟩,h26,hr⟩:=bs hr
       try dsimp only at hr
       apply TO.lok (wn T) rfl Jq (Spec.ov (nB h26) (by decide)) (vw T) rfl rfl (by simp[jM,cl,e_ff,e_c,e_ii,e_i,e_Lc_,e_f,e_Lff_])
       repeat exact sd T
       refine wA T (g:=?_)
       obtain⟨v36,h27,hr⟩:=bs hr
       apply TO.cal (wn T) rfl rU (Spec.ov (eC h27) (by decide)) rfl rfl rfl
       repeat exact sd T
       refine wa_ T (g:=?_)
       obtain⟨⟨v37,v38,v39,v40,v41⟩,h28,hr⟩:=bs hr
       try dsimp only at hr
       apply TO.lok (wn T) rfl Hn (Spec.ov (nC h28) (by decide)) (vw T) rfl rfl (by simp[jM,cl,e_ff,e_c,e_ii,e_i,e_Lc_,e_f,e_Lff_])
       repeat exact sd T
       refine wa_ T (g:=?_)
       rcases ifs hr with⟨h29,hr⟩|⟨h29,hr⟩
       ·have T:=an h29 T
        refine wa_ T (g:=?_)
        cases hr
        refine⟨rfl,?_⟩
        exact wk_ T [] rfl .nil
       ·repeat (first|(with_reducible first|refine mv ?_|refine TO.nil ?_)|((with_reducible first|apply TO.ia|apply TO.ld);(repeat (focus (show _=_;first|exact k1 rfl|exact k2 rfl|(simp only[zz,y41,e_Lc_,e_Lff_,e_c,e_ff,Nat.reduceAdd,Nat.reduceMul,Nat.reduceLeDiff,Nat.reduceEqDiff,aB,z5,Int.reduceToNat,Int.reduceLE,Int.reduceLT,Int.cast_ofNat_Int,tload,aV,aS,List.getElem?_map,h1,h2,h3,h19,h20m,h20l,h20a,h22,h29]<;>exact rfl)|exact rfl)));(with_reducible apply TO.here))|((with_reducible apply TX.region);(focus (simp only[zl]<;>exact rfl));(focus rfl);(try dsimp only))|fail)
        obtain⟨v42,h30,hr⟩:=bs hr
        have T:=an h29 T
        apply TO.lok (wn T) rfl zL (Spec.ov (dH h30) (by decide)) (vw T) rfl rfl (by simp[jM,cl,e_ff,e_c,e_ii,e_i,e_Lc_,e_f,e_Lff_])
        repeat exact sd T
        refine wa_ T (g:=?_)
        apply TO.pop1 (wn T) (bU rfl)
        repeat exact sd T
        refine wa_ T (g:=?_)
        rcases ifs hr with⟨h31,hr⟩|⟨h31,hr⟩
        ·repeat (first|(with_reducible first|refine mv ?_|refine TO.nil ?_)|((with_reducible first|apply TO.ia|apply TO.ld);(repeat (focus (show _=_;first|exact k1 rfl|exact k2 rfl|(simp only[zz,y41,e_Lc_,e_Lff_,e_c,e_ff,Nat.reduceAdd,Nat.reduceMul,Nat.reduceLeDiff,Nat.reduceEqDiff,aB,z5,Int.reduceToNat,Int.reduceLE,Int.reduceLT,Int.cast_ofNat_Int,tload,aV,aS,List.getElem?_map,h1,h2,h3,h19,h20m,h20l,h20a,h22,h29,h31]<;>exact rfl)|exact rfl)));(with_reducible apply TO.here))|((with_reducible apply TX.region);(focus (simp only[zl]<;>exact rfl));(focus rfl);(try dsimp only))|fail)
         obtain⟨v43,h32,hr⟩:=bs hr
         have T:=an h31 T
         apply TO.lok (wn T) rfl zL (Spec.ov (dH h32) (by decide)) (vw T) rfl rfl (by simp[jM,cl,e_ff,e_c,e_ii,e_i,e_Lc_,e_f,e_Lff_])
         repeat exact sd T
         refine wa_ T (g:=?_)
         apply TO.pop1 (wn T) (bU rfl)
         repeat exact sd T
         refine wa_ T (g:=?_)
         rcases ifs hr with⟨h33,hr⟩|⟨h33,hr⟩
         ·have T:=an h33 T
          refine wa_ T (g:=?_)
          cases hr
          refine⟨rfl,?_⟩
          exact wk_ T [some 0] rfl (.rows .nil rfl rfl)
         ·have T:=an h33 T
          refine wa_ T (g:=?_)
          cases hr
          refine⟨rfl,?_⟩
          exact wk_ T [] rfl .nil
        ·have T:=an h31 T
         refine wa_ T (g:=?_)
         cases hr
         refine⟨rfl,?_⟩
         exact wk_ T [] rfl .nil
      ·have T:=an h22 T
       refine wa_ T (g:=?_)
       cases hr
       refine⟨rfl,?_⟩
       exact wk_ T [] rfl .nil
     ·have T:=an h19 T
      refine wa_ T (g:=?_)
      cases hr
      refine⟨rfl,?_⟩
      exact wk_ T [some 0] rfl (.rows .nil rfl rfl)
    ·intro e h;rcases e with _|e<;>cases h
    ·try dsimp only
     rcases v44 with v45|v46
     ·try dsimp only at hr
      try dsimp only
      refine wa_ T (g:=?_)
      exact lv T hr
     ·try dsimp only at hr
      try dsimp only
      refine wa_ T (g:=?_)
      obtain⟨⟨v47,v48⟩,h35,hr⟩:=bs hr
      try dsimp only at hr
      apply TO.lok (wn T) rfl Jf (Spec.ov (jU h35) (by decide)) (vw T) rfl rfl (by simp[jM,cl,e_ff,e_c,e_ii,e_i,e_Lc_,e_f,e_Lff_])
      repeat exact sd T
      refine wa_ T (g:=?_)
      obtain⟨⟨v49,v50⟩,h36,hr⟩:=bs hr
      try dsimp only at hr
      apply TO.lok (wn T) rfl Gu (Spec.ov (jS h36) (by decide)) (vw T) rfl rfl (by simp[jM,cl,e_ff,e_c,e_ii,e_i,e_Lc_,e_f,e_Lff_])
      repeat exact sd T
      refine wa_ T (g:=?_)
      rcases ifs hr with⟨h37,hr⟩|⟨h37,hr⟩
      ·have T:=an h37 T
       refine wa_ T (g:=?_)
       obtain⟨v51,h38,hr⟩:=bs hr
       apply TO.lok (wn T) rfl Hr (Spec.ov (iH h38) (by decide)) (vw T) rfl rfl (by simp[jM,cl,e_ff,e_c,e_ii,e_i,e_Lc_,e_f,e_Lff_])
       repeat exact sd T
       refine wa_ T (g:=?_)
       exact lv T hr
      ·have T:=an h37 T
       refine wa_ T (g:=?_)
       exact lv T hr
    ·try dsimp only
     exact wk_ T [some 0] rfl (.rows .nil rfl rfl)
 ·have T:=an h1 T
  refine wc_ T (g:=?_)
  rcases ifs hr with⟨h39,hr⟩|⟨h39,hr⟩
  ·have T:=an h39 T
   refine wa_ T (g:=?_)
   exact lv T hr
  ·have T:=an h39 T
   refine wa_ T (g:=?_)
   apply TX.vt (α:=(List (Nat×Nat))) e_Lc_ 5 1 rfl
   repeat exact sd T
   with_reducible apply TX.here
   refine wa_ T (g:=?_)
   obtain⟨v92,h70,hr⟩:=bs hr
   refine TX.loopE (step:=bD v1 v2) (x:=(([]:List (List (Nat×Nat))),0)) h70 (fun (v52,v53)=>⟨.list 1 (v1.map e_Lff_)::.v (.int .i64 v2)::.Z::.Z::.Z::.lsl 0 0 v52.length::.v (.int .i64 v53)::.Z::.Z::.Z::.Z::.Z::.Z::.Z::.Z::.Z::.Z::.Z::.Z::.Z::.Z::.Z::.Z::.Z::.Z::.Z::.Z::.Z::.Z::.Z::.Z::.Z::.Z::.Z::.Z::.Z::.Z::.Z::.Z::.Z::.Z::.Z::.Z::.Z::.Z::.Z::.Z::.Z::.Z::.Z::.Z::.Z::.Z::.Z::.Z::.Z::.Z::.Z::.Z::.Z::.Z::.Z::.Z::.Z::.Z::.Z::.Z::.Z::.Z::.Z::.Z::.Z::.Z::.Z::.Z::.Z::.Z::.Z::.Z::.Z::.Z::.Z::.Z::.Z::.Z::.Z::.Z::.Z::.Z::.Z::.Z::.Z::.Z::.Z::.Z::.Z::.Z::.Z::.Z::.Z::.Z::.Z::.Z::.Z::.Z::.Z::.Z::[],[.rows 1 (v52.map e_Lc_)]⟩) (fun e=>match e with|(.inl v72)=>(.ret,⟨.Z::.Z::.Z::.Z::.v (.bool v72)::.Z::.Z::.Z::.Z::.Z::.Z::.Z::.Z::.Z::.Z::.Z::.Z::.Z::.Z::.Z::.Z::.Z::.Z::.Z::.Z::.Z::.Z::.Z::.Z::.Z::.Z::.Z::.Z::.Z::.Z::.Z::.Z::.Z::.Z::.Z::.Z::.Z::.Z::.Z::.Z::.Z::.Z::.Z::.Z::.Z::.Z::.Z::.Z::.Z::.Z::.Z::.Z::.Z::.Z::.Z::.Z::.Z::.Z::.Z::.Z::.Z::.Z::.Z::.Z::.Z::.Z::.Z::.Z::.Z::.Z::.Z::.Z::.Z::.Z::.Z::.Z::.Z::.Z::.Z::.Z::.Z::.Z::.Z::.Z::.Z::.Z::.Z::.Z::.Z::.Z::.Z::.Z::.Z::.Z::.Z::.Z::.Z::.Z::.Z::.Z::.Z::.Z::[],[]⟩)|(.inr v73)=>(.exit 0,⟨.Z::.Z::.Z::.Z::.Z::.lsl 0 0 v73.length::.Z::.Z::.Z::.Z::.Z::.Z::.Z::.Z::.Z::.Z::.Z::.Z::.Z::.Z::.Z::.Z::.Z::.Z::.Z::.Z::.Z::.Z::.Z::.Z::.Z::.Z::.Z::.Z::.Z::.Z::.Z::.Z::.Z::.Z::.Z::.Z::.Z::.Z::.Z::.Z::.Z::.Z::.Z::.Z::.Z::.Z::.Z::.Z::.Z::.Z::.Z::.Z::.Z::.Z::.Z::.Z::.Z::.Z::.Z::.Z::.Z::.Z::.Z::.Z::.Z::.Z::.Z::.Z::.Z::.Z::.Z::.Z::.Z::.Z::.Z::.Z::.Z::.Z::.Z::.Z::.Z::.Z::.Z::.Z::.Z::.Z::.Z::.Z::.Z::.Z::.Z::.Z::.Z::.Z::.Z::.Z::.Z::.Z::.Z::.Z::.Z::[],[.rows 1 (v73.map e_Lc_)]⟩)) ?_ ?_ ?_ ?_
   ·rintro⟨v52,v53⟩ v0 hr
    dsimp only[bD] at hr
    try dsimp only
    refine wc_ T (g:=?_)
    rcases ifs hr with⟨h55,hr⟩|⟨h55,hr⟩
    ·have T:=an h55 T
     refine wa_ T (g:=?_)
     obtain⟨v74,h56,hr⟩:=bs hr
     have h56m:=cR (f:=e_Lff_) h56
     have h56l:=cV h56
     try simp only[List.length_set] at h56l
     have h56a:=dE h56
     have T:=an h56m T
     have T:=an h56l T
     have T:=an h56a T
     refine wA T (g:=?_)
     obtain⟨v75,h57,hr⟩:=bs hr
     apply TO.cal (wn T) rfl Mb (Spec.ov (nW h57) (by decide)) rfl rfl rfl
     repeat exact sd T
     refine wa_ T (g:=?_)
     apply TO.pop1 (wn T) (bU rfl)
     repeat exact sd T
     refine wa_ T (g:=?_)
     rcases ifs hr with⟨h58,hr⟩|⟨h58,hr⟩
     ·have T:=an h58 T
      refine wA T (g:=?_)
      obtain⟨v76,h59,hr⟩:=bs hr
      apply TO.cal (wn T) rfl rU (Spec.ov (eC h59) (by decide)) rfl rfl rfl
      repeat exact sd T
      refine wa_ T (g:=?_)
      apply TO.frz 1 rfl rfl
      repeat exact sd T
      refine wa_ T (g:=?_)
      apply TO.bm e_Lc_ ([v76]:List (List (Nat×Nat))) (wn T) rfl (by simp only[zz,y41,e_Lc_,e_Lff_,e_c,e_ff,Nat.reduceAdd,Nat.reduceMul,Nat.reduceLeDiff,Nat.reduceEqDiff,tslice,tparts,h1,h39,h55,h56m,h56l,h56a,h58];exact rfl) rfl
      repeat exact sd T
      refine wa_ T (g:=?_)
      obtain⟨v77,h60,hr⟩:=bs hr
      apply TO.ap (f:=e_Lc_) (xs:=v52) (ys:=([v76]:List (List (Nat×Nat)))) (wn T) rfl rfl (by first|rfl|simp only[List.length_set]) rfl rfl so55 ni55 zc31 rfl (by rw[by31];exact h60) (fun _=>⟨rfl,rfl,rfl⟩)
      repeat exact sd T
      refine wA T (g:=?_)
      obtain⟨v78,h61,hr⟩:=bs hr
      apply TO.cal (wn T) rfl rU (Spec.ov (eC h61) (by decide)) rfl rfl rfl
      repeat exact sd T
      refine wa_ T (g:=?_)
      obtain⟨⟨v79,v80,v81,v82,v83⟩,h62,hr⟩:=bs hr
      try dsimp only at hr
      apply TO.lok (wn T) rfl Jq (Spec.ov (nB h62) (by decide)) (vw T) rfl rfl (by simp[jM,cl,e_ff,e_c,e_ii,e_i,e_Lc_,e_f,e_Lff_])
      repeat exact sd T
      refine wA T (g:=?_)
      obtain⟨v84,h63,hr⟩:=bs hr
      apply TO.cal (wn T) rfl rU (Spec.ov (eC h63) (by decide)) rfl rfl rfl
      repeat exact sd T
      refine wa_ T (g:=?_)
      obtain⟨⟨v85,v86,v87,v88,v89⟩,h64,hr⟩:=bs hr
      try dsimp only at hr
      apply TO.lok (wn T) rfl Hn (Spec.ov (nC h64) (by decide)) (vw T) rfl rfl (by simp[jM,cl,e_ff,e_c,e_ii,e_i,e_Lc_,e_f,e_Lff_])
      repeat exact sd T
      refine wa_ T (g:=?_)
      rcases ifs hr with⟨h65,hr⟩|⟨h65,hr⟩
      ·have T:=an h65 T
       refine wa_ T (g:=?_)
       cases hr
       refine⟨rfl,?_⟩
       exact wk_ T [] rfl .nil
      ·repeat (first|(with_reducible first|refine mv ?_|refine TO.nil ?_)|((with_reducible first|apply TO.ia|apply TO.ld);(repeat (focus (show _=_;first|exact k1 rfl|exact k2 rfl|(simp only[zz,y41,e_Lc_,e_Lff_,e_c,e_ff,Nat.reduceAdd,Nat.reduceMul,Nat.reduceLeDiff,Nat.reduceEqDiff,aB,z5,Int.reduceToNat,Int.reduceLE,Int.reduceLT,Int.cast_ofNat_Int,tload,aV,aS,List.getElem?_map,h1,h39,h55,h56m,h56l,h56a,h58,h65]<;>exact rfl)|exact rfl)));(with_reducible apply TO.here))|((with_reducible apply TX.region);(focus (simp only[zl]<;>exact rfl));(focus rfl);(try dsimp only))|fail)
       obtain⟨v90,h66,hr⟩:=bs hr
       have T:=an h65 T
       apply TO.lok (wn T) rfl zL (Spec.ov (dH h66) (by decide)) (vw T) rfl rfl (by simp[jM,cl,e_ff,e_c,e_ii,e_i,e_Lc_,e_f,e_Lff_])
       repeat exact sd T
       refine wa_ T (g:=?_)
       apply TO.pop1 (wn T) (bU rfl)
       repeat exact sd T
       refine wa_ T (g:=?_)
       rcases ifs hr with⟨h67,hr⟩|⟨h67,hr⟩
       ·repeat (first|(with_reducible first|refine mv ?_|refine TO.nil ?_)|((with_reducible first|apply TO.ia|apply TO.ld);(repeat (focus (show _=_;first|exact k1 rfl|exact k2 rfl|(simp only[zz,y41,e_Lc_,e_Lff_,e_c,e_ff,Nat.reduceAdd,Nat.reduceMul,Nat.reduceLeDiff,Nat.reduceEqDiff,aB,z5,Int.reduceToNat,Int.reduceLE,Int.reduceLT,Int.cast_ofNat_Int,tload,aV,aS,List.getElem?_map,h1,h39,h55,h56m,h56l,h56a,h58,h65,h67]<;>exact rfl)|exact rfl)));(with_reducible apply TO.here))|((with_reducible apply TX.region);(focus (simp only[zl]<;>exact rfl));(focus rfl);(try dsimp only))|fail)
        obtain⟨v91,h68,hr⟩:=bs hr
        have T:=an h67 T
        apply TO.lok (wn T) rfl zL (Spec.ov (dH h68) (by decide)) (vw T) rfl rfl (by simp[jM,cl,e_ff,e_c,e_ii,e_i,e_Lc_,e_f,e_Lff_])
        repeat exact sd T
        refine wa_ T (g:=?_)
        apply TO.pop1 (wn T) (bU rfl)
        repeat exact sd T
        refine wa_ T (g:=?_)
        rcases ifs hr with⟨h69,hr⟩|⟨h69,hr⟩
        ·have T:=an h69 T
         refine wa_ T (g:=?_)
         cases hr
         refine⟨rfl,?_⟩
         exact wk_ T [some 0] rfl (.rows .nil rfl rfl)
        ·have T:=an h69 T
         refine wa_ T (g:=?_)
         cases hr
         refine⟨rfl,?_⟩
         exact wk_ T [] rfl .nil
       ·have T:=an h67 T
        refine wa_ T (g:=?_)
        cases hr
        refine⟨rfl,?_⟩
        exact wk_ T [] rfl .nil
     ·have T:=an h58 T
      refine wa_ T (g:=?_)
      cases hr
      refine⟨rfl,?_⟩
      exact wk_ T [] rfl .nil
    ·have T:=an h55 T
     refine wa_ T (g:=?_)
     cases hr
     refine⟨rfl,?_⟩
     exact wk_ T [some 0] rfl (.rows .nil rfl rfl)
   ·intro e h;rcases e with _|e<;>cases h
   ·try dsimp only
    rcases v92 with v93|v94
    ·try dsimp only at hr
     try dsimp only
     refine wa_ T (g:=?_)
     exact lv T hr
    ·try dsimp only at hr
     try dsimp only
     refine wa_ T (g:=?_)
     obtain⟨⟨v95,v96⟩,h71,hr⟩:=bs hr
     try dsimp only at hr
     apply TO.lok (wn T) rfl Jf (Spec.ov (jU h71) (by decide)) (vw T) rfl rfl (by simp[jM,cl,e_ff,e_c,e_ii,e_i,e_Lc_,e_f,e_Lff_])
     repeat exact sd T
     refine wa_ T (g:=?_)
     obtain⟨⟨v97,v98⟩,h72,hr⟩:=bs hr
     try dsimp only at hr
     apply TO.lok (wn T) rfl Gu (Spec.ov (jS h72) (by decide)) (vw T) rfl rfl (by simp[jM,cl,e_ff,e_c,e_ii,e_i,e_Lc_,e_f,e_Lff_])
     repeat exact sd T
     refine wa_ T (g:=?_)
     rcases ifs hr with⟨h73,hr⟩|⟨h73,hr⟩
     ·have T:=an h73 T
      refine wa_ T (g:=?_)
      obtain⟨v99,h74,hr⟩:=bs hr
      apply TO.lok (wn T) rfl Hr (Spec.ov (iH h74) (by decide)) (vw T) rfl rfl (by simp[jM,cl,e_ff,e_c,e_ii,e_i,e_Lc_,e_f,e_Lff_])
      repeat exact sd T
      refine wa_ T (g:=?_)
      exact lv T hr
     ·have T:=an h73 T
      refine wa_ T (g:=?_)
      exact lv T hr
   ·try dsimp only
    exact wk_ T [some 0] rfl (.rows .nil rfl rfl)
end Go.Rex
