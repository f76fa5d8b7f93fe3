/- Proofs that the program's functions do what these plain functions say. -/
import Derived.Test.YtplnankdicpenaaGB
import Derived.Test.YtplnankdicpenaaS
import Derived.Test.YtplnankdicpenaaG1
set_option linter.unusedSimpArgs false
set_option linter.unusedVariables false
set_option linter.defProp false
namespace Go.Rex
open Go.Proofs
open Go Go.Rex Go.RowKit
set_option maxRecDepth 100000
set_option maxHeartbeats 200000
def y49:=an @ag3 <| an @ag72 <| an @cs72 <| @ok72
theorem fJ{v1:Int}{v2:Int}{v3:(List Int)}{v4:Int}(hr:aU v1 v2 v3=some (v4)):Spec (lim Try.prog) 68 [.fptr true [.v (.int .i64 v1)] 0,.fptr true [.v (.int .i64 v2),.list 1 (v3.map e_i)] 0] ⟨[.v (.int .i64 v4)],[]⟩:=by
 unfold aU at hr
 have T:=an y49 <| @e_i.eq_1
 apply Spec.fn Try.func68 rfl
 focus (simp[Try.f68]<;>exact rfl)
 focus
  refine wA T (g:=?_)
  obtain⟨v5,h1,hr⟩:=bs hr
  apply TD.cal (wn T) rfl Ai (aW h1) rfl rfl rfl
  repeat exact sd T
  refine wa_ T (g:=?_)
  obtain⟨⟨v6,v7⟩,h2,hr⟩:=bs hr
  try dsimp only at hr
  apply TD.cal (wn T) rfl Ee (iJ h2) rfl rfl rfl
  repeat exact sd T
  refine wa_ T (g:=?_)
  obtain⟨v8,h3,hr⟩:=bs hr
  apply TD.cal (wn T) rfl nD (aD h3) rfl rfl rfl
  repeat exact sd T
  refine wa_ T (g:=?_)
  cases hr
  refine⟨.inr rfl,_,(ry T),?_⟩
  exact wr [] rfl .nil
 rfl
def y50:=an @ag64 <| an @cs64 <| an @ok64 <| an @so99 <| an @bP <| an @mX <| @rX
theorem pL{v1:(List (Nat×Nat))}{v2:Int}{v3:(List Int)}{v4:Int}{v5:Int}{v6:(List Int)}{v7:Int}(hr:gY v1 v2 v3 v4 v5 v6=some (v7)):Spec (lim Try.prog) 26 [.list 1 [[.func 63 [] [.fptr true [.list 1 (v1.map e_c)] 0]],[.func 32 [.agg [.v (.int .i64 v2),.list 1 (v3.map e_i)]] []],[.func 68 [] [.fptr true [.v (.int .i64 v4)] 0,.fptr true [.v (.int .i64 v5),.list 1 (v6.map e_i)] 0]]]] ⟨[.v (.int .i64 v7)],[]⟩:=by
 unfold gY at hr
 have T:=an y50 <| an @e_c.eq_1 <| @e_i.eq_1
 apply Spec.fn Try.func26 rfl
 focus (simp[Try.f26]<;>exact rfl)
 focus
  refine wc_ T (g:=?_)
  refine TX.unroll ?_
  repeat (first|(with_reducible first|refine mv ?_|refine m12 rfl ?_|refine TO.nil ?_)|((with_reducible first|apply TO.bin|apply TO.ia|apply TO.ld|apply TO.asg|apply TO.mv);(repeat (focus (show _=_;first|exact k1 rfl|exact k2 rfl|(simp only[zz,y50,e_c,e_i,Nat.reduceAdd,Nat.reduceMul,Nat.reduceLeDiff,Nat.reduceEqDiff,aB,z5,Int.reduceToNat,Int.reduceLE,Int.reduceLT,Int.cast_ofNat_Int,tload,bD,bC,List.getElem?_map]<;>exact rfl)|exact rfl)));(with_reducible apply TO.here))|((with_reducible apply TX.region);(focus (simp only[zl]<;>exact rfl));(focus rfl);(try dsimp only))|((with_reducible apply TX.cond_true);(focus rfl);(focus (first|rfl|(simp only[z1,zn];done))))|((with_reducible apply TX.cond_false);(focus rfl);(focus (first|rfl|(simp only[z1,zn];done))))|fail)
  obtain⟨v8,h1,hr⟩:=bs hr
  apply TO.cal (wn T) rfl Al (bT h1) rfl rfl rfl
  repeat exact sd T
  refine wa_ T (g:=?_)
  rcases ifs hr with⟨h2,hr⟩|⟨h2,hr⟩
  ·have T:=an h2 T
   refine wa_ T (g:=?_)
   cases hr
   refine⟨.inr rfl,_,(ry T),?_⟩
   exact wk_ T [] rfl .nil
  ·have T:=an h2 T
   refine wa_ T (g:=?_)
   refine TX.unroll ?_
   repeat (first|(with_reducible first|refine mv ?_|refine m12 rfl ?_|refine TO.nil ?_)|((with_reducible first|apply TO.bin|apply TO.ia|apply TO.ld|apply TO.asg|apply TO.mv);(repeat (focus (show _=_;first|exact k1 rfl|exact k2 rfl|(simp only[zz,y50,e_c,e_i,Nat.reduceAdd,Nat.reduceMul,Nat.reduceLeDiff,Nat.reduceEqDiff,aB,z5,Int.reduceToNat,Int.reduceLE,Int.reduceLT,Int.cast_ofNat_Int,tload,bD,bC,List.getElem?_map,h2]<;>exact rfl)|exact rfl)));(with_reducible apply TO.here))|((with_reducible apply TX.region);(focus (simp only[zl]<;>exact rfl));(focus rfl);(try dsimp only))|((with_reducible apply TX.cond_true);(focus rfl);(focus (first|rfl|(simp only[z1,zn,h2];done))))|((with_reducible apply TX.cond_false);(focus rfl);(focus (first|rfl|(simp only[z1,zn,h2];done))))|fail)
   obtain⟨v9,h3,hr⟩:=bs hr
   apply TO.cal (wn T) rfl Xe (kY h3) rfl rfl rfl
   repeat exact sd T
   refine wa_ T (g:=?_)
   rcases ifs hr with⟨h4,hr⟩|⟨h4,hr⟩
   ·have T:=an h4 T
    refine wa_ T (g:=?_)
    cases hr
    refine⟨.inr rfl,_,(ry T),?_⟩
    exact wk_ T [] rfl .nil
   ·have T:=an h4 T
    refine wa_ T (g:=?_)
    refine TX.unroll ?_
    repeat (first|(with_reducible first|refine mv ?_|refine m12 rfl ?_|refine TO.nil ?_)|((with_reducible first|apply TO.bin|apply TO.ia|apply TO.ld|apply TO.asg|apply TO.mv);(repeat (focus (show _=_;first|exact k1 rfl|exact k2 rfl|(simp only[zz,y50,e_c,e_i,Nat.reduceAdd,Nat.reduceMul,Nat.reduceLeDiff,Nat.reduceEqDiff,aB,z5,Int.reduceToNat,Int.reduceLE,Int.reduceLT,Int.cast_ofNat_Int,tload,bD,bC,List.getElem?_map,h2,h4]<;>exact rfl)|exact rfl)));(with_reducible apply TO.here))|((with_reducible apply TX.region);(focus (simp only[zl]<;>exact rfl));(focus rfl);(try dsimp only))|((with_reducible apply TX.cond_true);(focus rfl);(focus (first|rfl|(simp only[z1,zn,h2,h4];done))))|((with_reducible apply TX.cond_false);(focus rfl);(focus (first|rfl|(simp only[z1,zn,h2,h4];done))))|fail)
    obtain⟨v10,h5,hr⟩:=bs hr
    apply TO.cal (wn T) rfl Vu (fJ h5) rfl rfl rfl
    repeat exact sd T
    refine wa_ T (g:=?_)
    rcases ifs hr with⟨h6,hr⟩|⟨h6,hr⟩
    ·have T:=an h6 T
     refine wa_ T (g:=?_)
     cases hr
     refine⟨.inr rfl,_,(ry T),?_⟩
     exact wk_ T [] rfl .nil
    ·have T:=an h6 T
     refine wa_ T (g:=?_)
     refine TX.unroll ?_
     refine wa_ T (g:=?_)
     cases hr
     refine⟨.inr rfl,_,(ry T),?_⟩
     exact wk_ T [] rfl .nil
 rfl
def y51:=an @ag91 <| an @by91 <| an @cs91 <| an @ok91 <| an @so79 <| an @zc91 <| @bP
theorem vP{v1:(List (Int×Int))}{v2:Int}{v3:(List (Int×Int))}(hr:gM v1 v2=some (v3)):Spec (lim Try.prog) 51 [.list 2 (v1.map e_ii),.v (.int .i64 v2)] ⟨[.lsl 0 0 v3.length],[.rows 2 (v3.map e_ii)]⟩:=by
 unfold gM at hr
 have T:=an y51 <| @e_ii.eq_1
 apply Spec.fn Try.func51 rfl
 focus (simp[Try.f51]<;>exact rfl)
 focus
  refine wa_ T (g:=?_)
  obtain⟨v4,h1,hr⟩:=bs hr
  apply TO.mk e_ii h1 (wn T) rfl rfl so79 zc91 by91 rfl rfl rfl
  repeat exact sd T
  refine wc_ T (g:=?_)
  obtain⟨v20,h12,hr⟩:=bs hr
  refine TX.loopE (step:=dY v1 v2) (x:=(v4,0)) h12 (fun (v5,v6)=>⟨.Z::.v (.int .i64 v2)::.Z::.Z::.Z::.lsl 0 0 v5.length::.Z::.Z::.Z::.Z::.list 2 (v1.map e_ii)::.v (.int .i64 (v1.length:Int))::.v (.int .i64 v6)::.Z::.Z::.Z::.Z::.Z::.Z::.Z::.Z::.Z::.Z::.Z::.Z::.Z::.Z::.Z::.Z::.Z::.Z::.Z::[],[.rows 2 (v5.map e_ii)]⟩) (fun v13=>(.exit 0,⟨.Z::.Z::.Z::.Z::.Z::.lsl 0 0 v13.length::.Z::.Z::.Z::.Z::.Z::.Z::.Z::.Z::.Z::.Z::.Z::.Z::.Z::.Z::.Z::.Z::.Z::.Z::.Z::.Z::.Z::.Z::.Z::.Z::.Z::.Z::[],[.rows 2 (v13.map e_ii)]⟩)) ?_ ?_ ?_ ?_
  ·rintro⟨v5,v6⟩ v0 hr
   dsimp only[dY] at hr
   try dsimp only
   refine wa_ T (g:=?_)
   rcases ifs hr with⟨h7,hr⟩|⟨h7,hr⟩
   ·have T:=an h7 T
    refine wa_ T (g:=?_)
    obtain⟨⟨v14,v15⟩,h8,hr⟩:=bs hr
    try dsimp only at hr
    have T:=an (gx e_ii h8) T
    refine wA T (g:=?_)
    by_cases h9:v2=0
    ·rw[if_pos h9] at hr
     cases hr
    ·rw[if_neg h9] at hr
     have T:=an h9 T
     refine wa_ T (g:=?_)
     obtain⟨⟨v16,v17⟩,h10,hr⟩:=bs hr
     try dsimp only at hr
     have h10m:=jU (f:=e_ii) h10
     have h10l:=jQ h10
     try simp only[List.length_set] at h10l
     have h10a:=kL h10
     have T:=an h10m T
     have T:=an h10l T
     have T:=an h10a T
     refine wA T (g:=?_)
     obtain⟨⟨v18,v19⟩,h11,hr⟩:=bs hr
     try dsimp only at hr
     apply TD.cal (wn T) rfl Ka (gA h11) rfl rfl rfl
     repeat exact sd T
     refine wa_ T (g:=?_)
     apply TD.sr e_ii v5 (v16,v17) (v18,v19) h10a (wn T) rfl rfl rfl rfl rfl ok91 (by rw[cs91];rfl) rfl rfl rfl rfl rfl
     repeat exact sd T
     refine wa_ T (g:=?_)
     cases hr
     refine⟨rfl,?_⟩
     exact wk_ T [some 0] rfl (.rows .nil rfl rfl)
   ·have T:=an h7 T
    refine wa_ T (g:=?_)
    cases hr
    refine⟨rfl,?_⟩
    exact wk_ T [some 0] rfl (.rows .nil rfl rfl)
  ·intro e h;cases h
  ·try dsimp only
   refine wa_ T (g:=?_)
   cases hr
   refine⟨.inr rfl,_,(ry T),?_⟩
   exact wr [some 0] rfl (.rows .nil rfl rfl)
  ·try dsimp only
   exact wr [some 0] rfl (.rows .nil rfl rfl)
 rfl
theorem kN{v1:Int}{v2:(List Int)}{v3:Int}{v4:Int}{v5:Int}{v6:(List Int)}(hr:eC v1 v2 v3=some (v4,v5,v6)):Spec (lim Try.prog) 97 [.agg [.v (.int .i64 v1),.list 1 (v2.map e_i)],.v (.int .i64 v3)] ⟨[.func 105 [] [.fptr true [.v (.int .i64 v4)] 0,.fptr true [.v (.int .i64 v5),.list 1 (v6.map e_i)] 0]],[]⟩:=by
 unfold eC at hr
 have T:=@e_i.eq_1
 apply Spec.fn Try.func97 rfl
 focus (simp[Try.f97]<;>exact rfl)
 focus
  refine wb_ T (g:=?_)
  cases hr
  refine⟨.inr rfl,_,(ry T),?_⟩
  exact wr [] rfl .nil
 rfl
def y52:=an @ag23 <| an @ag3 <| an @cs3 <| an @sL <| an @zV <| an @Ny <| an @ok3 <| an @so23 <| @bP
theorem lD{v1:Int}{v2:(List Int)}{v3:Int}{v4:Int}(hr:dK v1 v2 v3=some (v4)):Spec (lim Try.prog) 104 [.agg [.v (.int .i64 v1),.list 1 (v2.map e_i)],.v (.int .i64 v3)] ⟨[.v (.int .i64 v4)],[]⟩:=by
 unfold dK at hr
 have T:=an y52 <| @e_i.eq_1
 apply Spec.fn Try.func104 rfl
 focus (simp[Try.f104]<;>exact rfl)
 focus
  refine wD T (g:=?_)
  obtain⟨v12,h7,hr⟩:=bs hr
  refine TX.loopE (step:=cB v1 v2 v3) (x:=(0,0)) h7 (fun (v5,v6)=>⟨.Z::.v (.int .i64 v3)::.fptr true [.v (.int .i64 v1),.list 1 (v2.map e_i)] 0::.Z::.Z::.v (.int .i64 v5)::.Z::.Z::.Z::.Z::.list 1 (v2.map e_i)::.v (.int .i64 (v2.length:Int))::.v (.int .i64 v6)::.Z::.Z::.Z::.Z::.Z::.Z::.Z::.Z::.Z::.Z::.Z::.Z::.Z::.Z::.Z::.Z::.Z::.Z::.Z::.Z::.Z::.Z::.Z::[],[]⟩) (fun v9=>(.exit 0,⟨.Z::.v (.int .i64 v3)::.fptr true [.v (.int .i64 v1),.list 1 (v2.map e_i)] 0::.Z::.Z::.v (.int .i64 v9)::.Z::.Z::.Z::.Z::.Z::.Z::.Z::.Z::.Z::.Z::.Z::.Z::.Z::.Z::.Z::.Z::.Z::.Z::.Z::.Z::.Z::.Z::.Z::.Z::.Z::.Z::.Z::.Z::.Z::.Z::[],[]⟩)) ?_ ?_ ?_ ?_
  ·rintro⟨v5,v6⟩ v0 hr
   dsimp only[cB] at hr
   try dsimp only
   refine wa_ T (g:=?_)
   rcases ifs hr with⟨h4,hr⟩|⟨h4,hr⟩
   ·have T:=an h4 T
    refine wa_ T (g:=?_)
    obtain⟨v10,h5,hr⟩:=bs hr
    have T:=an (gx e_i h5) T
    refine wA T (g:=?_)
    obtain⟨v11,h6,hr⟩:=bs hr
    apply TO.pop1 (wn T) (uZ rfl rfl (by decide) (h6))
    repeat exact sd T
    refine wa_ T (g:=?_)
    apply TO.pop1 (wn T) (uA rfl rfl (by decide))
    repeat exact sd T
    refine wa_ T (g:=?_)
    apply TO.pop1 (wn T) (uA rfl rfl (by decide))
    repeat exact sd T
    refine wa_ T (g:=?_)
    cases hr
    refine⟨rfl,?_⟩
    exact wk_ T [] rfl .nil
   ·have T:=an h4 T
    refine wa_ T (g:=?_)
    cases hr
    refine⟨rfl,?_⟩
    exact wk_ T [] rfl .nil
  ·intro e h;cases h
  ·try dsimp only
   refine wa_ T (g:=?_)
   obtain⟨v13,h8,hr⟩:=bs hr
   apply TO.pop1 (wn T) (uZ rfl rfl (by decide) (h8))
   repeat exact sd T
   refine wA T (g:=?_)
   obtain⟨v14,h9,hr⟩:=bs hr
   apply TO.pop1 (wn T) (uZ rfl rfl (by decide) (h9))
   repeat exact sd T
   refine wa_ T (g:=?_)
   apply TO.pop1 (wn T) (uA rfl rfl (by decide))
   repeat exact sd T
   refine wa_ T (g:=?_)
   cases hr
   refine⟨.inr rfl,_,(ry T),?_⟩
   exact wr [] rfl .nil
  ·try dsimp only
   exact wr [] rfl .nil
 rfl
def y53:=an @ag3 <| an @ag72 <| an @cs72 <| @ok72
theorem fW{v1:Int}{v2:Int}{v3:(List Int)}:ISpec (lim Try.prog) 105 [] [.fptr true [.v (.int .i64 v1)] 0,.fptr true [.v (.int .i64 v2),.list 1 (v3.map e_i)] 0] (fun a0=>[.v (.int .i64 a0)]) (fun {X}=>aJ (X:=X) v1 v2 v3):=by
 refine ISpec.fn (tms:=fun l=>[.v (.func (.yield l) #[] #[]),.fptr true [.v (.int .i64 v1)] 0,.fptr true [.v (.int .i64 v2),.list 1 (v3.map e_i)] 0,.Z,.Z,.Z,.Z,.Z,.Z,.Z,.Z,.Z]) Try.func105 rfl rfl (fun l=>by simp[Try.f105]<;>exact rfl) ?_
 intro X O l H v4 xx hY hr
 dsimp only[aJ] at hr
 try dsimp only
 repeat (first|(with_reducible first|refine mv ?_|refine m12 rfl ?_)|fail)
 refine TI.of ?_
 repeat (first|(with_reducible first|refine mv ?_|refine m12 rfl ?_|refine TO.nil ?_)|((with_reducible first|apply TO.ld|apply TO.asg);(repeat (focus (show _=_;first|exact k1 rfl|exact k2 rfl|(simp only[zz,y53,e_i,Nat.reduceAdd,Nat.reduceMul,Nat.reduceLeDiff,Nat.reduceEqDiff,tload,bD,bC,List.getElem?_map]<;>exact rfl)|exact rfl)));(with_reducible apply TO.here))|((with_reducible apply TX.region);(focus (simp only[zl]<;>exact rfl));(focus rfl);(try dsimp only))|fail)
 refine⟨[.v (.func (.yield l) #[] #[]),.fptr true [.v (.int .i64 v1)] 0,.fptr true [.v (.int .i64 v2),.list 1 (v3.map e_i)] 0,.Z,.v (.int .i64 v1),.v (.int .i64 v1),.Z,.Z,.Z,.Z,.Z,.Z],?_,?_⟩
 ·exact wr [] rfl .nil
 repeat (first|(with_reducible first|refine mv ?_|refine m12 rfl ?_)|fail)
 obtain⟨v14,h7,hr⟩:=Option.bind_eq_some_iff.1 hr
 try dsimp only at hr
 refine TI.loopW (step:=aR H v2 v3) (y:=(v1,v4)) h7 (fun (v5,v6)=>([.v (.func (.yield l) #[] #[]),.Z,.fptr true [.v (.int .i64 v2),.list 1 (v3.map e_i)] 0,.Z,.v (.int .i64 v5),.Z,.Z,.Z,.Z,.Z,.Z,.Z],v6)) (fun v10=>(.exit 0,([.Z,.Z,.Z,.Z,.Z,.Z,.Z,.Z,.Z,.Z,.Z,.Z],v10))) ?_ rfl ?_ ?_ ?_
 ·try dsimp only
  exact wr [] rfl .nil
 ·rintro⟨v5,v6⟩ v0 hr
  dsimp only[aR] at hr
  try dsimp only
  repeat (first|(with_reducible first|refine mv ?_|refine m12 rfl ?_)|fail)
  refine TI.yield 2 hY (by simp only[zl]<;>exact rfl) (by simp only[List.take_succ_cons,List.take_zero]<;>exact rfl) (by exact rfl) ⟨⟨_,_,_,_,_,rfl⟩⟩ rfl ?_
  try dsimp only
  repeat (first|(with_reducible first|refine mv ?_|refine m12 rfl ?_|refine TO.nil ?_)|((with_reducible first|apply TO.mv);(repeat (focus (show _=_;first|exact k1 rfl|exact k2 rfl|(simp only[zz,y53,e_i,Nat.reduceAdd,Nat.reduceMul,Nat.reduceLeDiff,Nat.reduceEqDiff]<;>exact rfl)|exact rfl)));(with_reducible apply TO.here))|((with_reducible apply TX.region);(focus (simp only[zl]<;>exact rfl));(focus rfl);(try dsimp only))|fail)
  obtain⟨⟨v11,v12⟩,h4,hr⟩:=Option.bind_eq_some_iff.1 hr
  try dsimp only at hr
  refine⟨[.v (.func (.yield l) #[] #[]),.Z,.fptr true [.v (.int .i64 v2),.list 1 (v3.map e_i)] 0,.Z,.v (.int .i64 v5),.Z,.v (.func (.yield l) #[] #[]),.v (.int .i64 v5),.Z,.Z,.Z,.Z],?_,.inl ⟨v5,v11,v12,by first|rfl|(simp only[twant,z1,z7]<;>rfl),rfl,rfl,h4,?_⟩⟩
  ·exact wr [] rfl .nil
  show TO _ _ _ _ ⟨.v (.func (.yield l) #[] #[])::.Z::.fptr true [.v (.int .i64 v2),.list 1 (v3.map e_i)] 0::.Z::.v (.int .i64 v5)::.Z::.v (.func (.yield l) #[] #[])::.v (.int .i64 v5)::.v (.bool v11)::.Z::.Z::.Z::[],[]⟩ _
  repeat (first|(with_reducible first|refine mv ?_|refine m12 rfl ?_|refine TO.nil ?_)|((with_reducible apply TX.region);(focus (simp only[zl]<;>exact rfl));(focus rfl);(try dsimp only))|fail)
  refine⟨[.v (.func (.yield l) #[] #[]),.Z,.fptr true [.v (.int .i64 v2),.list 1 (v3.map e_i)] 0,.Z,.v (.int .i64 v5),.Z,.v (.func (.yield l) #[] #[]),.v (.int .i64 v5),.v (.bool v11),.Z,.Z,.Z],?_,?_⟩
  ·exact wr [] rfl .nil
  repeat (first|(with_reducible first|refine mv ?_|refine m12 rfl ?_)|((with_reducible apply TX.cond_true);(focus rfl);(focus (first|rfl|(simp only[z1,zn];done))))|((with_reducible apply TX.cond_false);(focus rfl);(focus (first|rfl|(simp only[z1,zn];done))))|((with_reducible apply TI.cond_true);(focus rfl);(focus (first|rfl|(simp only[z1,zn];done))))|((with_reducible apply TI.cond_false);(focus rfl);(focus (first|rfl|(simp only[z1,zn];done))))|fail)
  rcases Bool.eq_false_or_eq_true (v11) with h5|h5
  ·rw[if_pos h5] at hr
   repeat (first|(with_reducible first|refine mv ?_|refine m12 rfl ?_)|((with_reducible apply TX.cond_true);(focus rfl);(focus (first|rfl|(simp only[z1,zn,h5];done))))|((with_reducible apply TX.cond_false);(focus rfl);(focus (first|rfl|(simp only[z1,zn,h5];done))))|((with_reducible apply TI.cond_true);(focus rfl);(focus (first|rfl|(simp only[z1,zn,h5];done))))|((with_reducible apply TI.cond_false);(focus rfl);(focus (first|rfl|(simp only[z1,zn,h5];done))))|fail)
   refine TI.of ?_
   repeat (first|(with_reducible first|refine mv ?_|refine m12 rfl ?_|refine TO.nil ?_)|((with_reducible first|apply TO.ld|apply TO.mv);(repeat (focus (show _=_;first|exact k1 rfl|exact k2 rfl|(simp only[zz,y53,e_i,Nat.reduceAdd,Nat.reduceMul,Nat.reduceLeDiff,Nat.reduceEqDiff,tload,bD,bC,List.getElem?_map,h5]<;>exact rfl)|exact rfl)));(with_reducible apply TO.here))|((with_reducible apply TX.region);(focus (simp only[zl]<;>exact rfl));(focus rfl);(try dsimp only))|fail)
   obtain⟨v13,h6,hr⟩:=Option.bind_eq_some_iff.1 hr
   try dsimp only at hr
   apply TO.cal (by first|rfl|(simp only[twant,z1,z7,h5]<;>rfl)) rfl Qy (lD h6) rfl rfl rfl
   (repeat (focus (show _=_;first|exact k1 rfl|exact k2 rfl|(simp only[zz,y53,e_i,Nat.reduceAdd,Nat.reduceMul,Nat.reduceLeDiff,Nat.reduceEqDiff,shift,kill,oN,frz,Jq,view,tml,tmlc,List.length_set,h5]<;>exact rfl)|exact rfl)))
   with_reducible apply TO.here
   repeat (first|(with_reducible first|refine mv ?_|refine m12 rfl ?_|refine TO.nil ?_)|((with_reducible first|apply TO.asg);(repeat (focus (show _=_;first|exact k1 rfl|exact k2 rfl|(simp only[zz,y53,e_i,Nat.reduceAdd,Nat.reduceMul,Nat.reduceLeDiff,Nat.reduceEqDiff,h5]<;>exact rfl)|exact rfl)));(with_reducible apply TO.here))|((with_reducible apply TX.region);(focus (simp only[zl]<;>exact rfl));(focus rfl);(try dsimp only))|fail)
   refine⟨[.v (.func (.yield l) #[] #[]),.Z,.fptr true [.v (.int .i64 v2),.list 1 (v3.map e_i)] 0,.Z,.v (.int .i64 v13),.Z,.v (.func (.yield l) #[] #[]),.v (.int .i64 v5),.v (.bool v11),.agg [.v (.int .i64 v2),.list 1 (v3.map e_i)],.v (.int .i64 v5),.v (.int .i64 v13)],?_,?_⟩
   ·exact Wk.ren [] rfl .nil (by (repeat (first|exact RNs.nil|refine RNs.cons .Z ?_|refine RNs.cons (.keep rfl rfl) ?_|refine RNs.cons (.lsl rfl rfl) ?_|refine RNs.cons (.lsl rfl (by simp only[List.length_set])) ?_|refine RNs.cons (.lptr rfl) ?_|refine RNs.cons (.nil rfl) ?_|refine RNs.cons .nl ?_|refine RNs.cons (.keep (by simp only[h5]) rfl) ?_|refine RNs.cons (.tuple' ?_) ?_|refine RNs.cons (.agg' ?_) ?_)))
   repeat (first|(with_reducible first|refine mv ?_|refine m12 rfl ?_)|fail)
   cases hr
   refine⟨rfl,?_,rfl⟩
   exact Wk.ren [] rfl .nil (by (repeat (first|exact RNs.nil|refine RNs.cons .Z ?_|refine RNs.cons (.keep rfl rfl) ?_|refine RNs.cons (.lsl rfl rfl) ?_|refine RNs.cons (.lsl rfl (by simp only[List.length_set])) ?_|refine RNs.cons (.lptr rfl) ?_|refine RNs.cons (.nil rfl) ?_|refine RNs.cons .nl ?_|refine RNs.cons (.keep (by simp only[h5]) rfl) ?_|refine RNs.cons (.tuple' ?_) ?_|refine RNs.cons (.agg' ?_) ?_)))
  ·rw[if_neg (by rw[h5];exact Bool.false_ne_true)] at hr
   repeat (first|(with_reducible first|refine mv ?_|refine m12 rfl ?_)|((with_reducible apply TX.cond_true);(focus rfl);(focus (first|rfl|(simp only[z1,zn,h5];done))))|((with_reducible apply TX.cond_false);(focus rfl);(focus (first|rfl|(simp only[z1,zn,h5];done))))|((with_reducible apply TI.cond_true);(focus rfl);(focus (first|rfl|(simp only[z1,zn,h5];done))))|((with_reducible apply TI.cond_false);(focus rfl);(focus (first|rfl|(simp only[z1,zn,h5];done))))|fail)
   cases hr
   refine⟨rfl,?_,rfl⟩
   exact Wk.ren [] rfl .nil (by (repeat (first|exact RNs.nil|refine RNs.cons .Z ?_|refine RNs.cons (.keep rfl rfl) ?_|refine RNs.cons (.lsl rfl rfl) ?_|refine RNs.cons (.lsl rfl (by simp only[List.length_set])) ?_|refine RNs.cons (.lptr rfl) ?_|refine RNs.cons (.nil rfl) ?_|refine RNs.cons .nl ?_|refine RNs.cons (.keep (by simp only[h5]) rfl) ?_|refine RNs.cons (.tuple' ?_) ?_|refine RNs.cons (.agg' ?_) ?_)))
 ·intro e h;cases h
 ·try dsimp only
  repeat (first|(with_reducible first|refine mv ?_|refine m12 rfl ?_)|fail)
  cases hr
  exact⟨.inl rfl,rfl⟩
def y54:=an @ag23 <| an @ag3 <| an @ag72 <| an @by3 <| an @cs23 <| an @cs3 <| an @cs72 <| an @ni23 <| an @ok23 <| an @ok72 <| an @so23 <| an @zc23 <| @zc3
theorem qE{v1:Int}{v2:(List Int)}{v3:Int}{v4:Int}{v5:(List Int)}(hr:fA v1 v2 v3 v4=some (v5)):Spec (lim Try.prog) 80 [.agg [.v (.int .i64 v1),.list 1 (v2.map e_i)],.v (.int .i64 v3),.v (.int .i64 v4)] ⟨[.lsl 0 0 v5.length],[.rows 1 (v5.map e_i)]⟩:=by
 unfold fA at hr
 have T:=an y54 <| @e_i.eq_1
 apply Spec.fnM Try.func80 rfl
 focus (simp[Try.f80]<;>exact rfl)
 focus
  refine wB T (g:=?_)
  obtain⟨⟨v6,v7,v8⟩,h1,hr⟩:=bs hr
  try dsimp only at hr
  apply TO.cal (wn T) rfl Xn (kN h1) rfl rfl rfl
  repeat exact sd T
  refine wa_ T (g:=?_)
  obtain⟨v15,h6,hr⟩:=bs hr
  refine TM.weak (s':=⟨.Z::.Z::.Z::.Z::.Z::.fptr true [.v (.int .i64 v4)] 0::.Z::.lptr 0 0 0::.Z::.Z::.Z::.func 105 [] [.fptr true [.v (.int .i64 v6)] 0,.fptr true [.v (.int .i64 v7),.list 1 (v8.map e_i)] 0]::.Z::.Z::.Z::.Z::.Z::.Z::.Z::.Z::.Z::.Z::.Z::[],[.var [.lsl 1 0 ([]:List Int).length],.rows 1 (([]:List Int).map e_i)]⟩) ?_ ?_
  ·exact wr [some 0,none] rfl (rv (.virt .nil) rfl)
  refine TM.range (it:=fun {X}=>aJ v6 v7 v8) (enc:=fun a0=>[.v (.int .i64 a0)]) h6 (fun v9=>[.var [.lsl 1 0 v9.length],.rows 1 (v9.map e_i)]) (fun v12=>[.var [.lsl 1 0 v12.length],.rows 1 (v12.map e_i)]) (fun _=>.exit 0) rfl rfl Rw fW rfl rfl rfl (fun _=>rfl) (fun _=>.inr ⟨_,rfl⟩) ?_ ?_
  ·rintro v13 v9 r hr
   dsimp only[dF] at hr
   show TX _ _ _ ⟨.Z::.Z::.Z::.Z::.Z::.fptr true [.v (.int .i64 v4)] 0::.Z::.lptr 0 0 0::.Z::.Z::.Z::.func 105 [] [.fptr true [.v (.int .i64 v6)] 0,.fptr true [.v (.int .i64 v7),.list 1 (v8.map e_i)] 0]::.v (.int .i64 v13)::.Z::.Z::.Z::.Z::.Z::.Z::.Z::.Z::.Z::.Z::[],[.var [.lsl 1 0 v9.length],.rows 1 (v9.map e_i)]⟩ _
   refine wa_ T (g:=?_)
   refine⟨rfl,?_⟩
   repeat (first|(with_reducible first|refine mv ?_|refine m12 rfl ?_|refine TO.nil ?_)|((with_reducible first|apply TO.ld|apply TO.len|apply TO.bin);(repeat (focus (show _=_;first|exact k1 rfl|exact k2 rfl|(simp only[zz,y54,e_i,Nat.reduceAdd,Nat.reduceMul,Nat.reduceLeDiff,Nat.reduceEqDiff,tload,bD,bC,List.getElem?_map,tlen]<;>exact rfl)|exact rfl)));(with_reducible apply TO.here))|((with_reducible apply TX.region);(focus (simp only[zl]<;>exact rfl));(focus rfl);(try dsimp only))|((with_reducible apply TX.cond_true);(focus rfl);(focus (first|rfl|(simp only[z1,zn];done))))|((with_reducible apply TX.cond_false);(focus rfl);(focus (first|rfl|(simp only[z1,zn];done))))|((with_reducible apply TM.cond_true);(focus rfl);(focus (first|rfl|(simp only[z1,zn];done))))|((with_reducible apply TM.cond_false);(focus rfl);(focus (first|rfl|(simp only[z1,zn];done))))|fail)
   rcases ifs hr with⟨h4,hr⟩|⟨h4,hr⟩
   ·repeat (first|(with_reducible first|refine mv ?_|refine m12 rfl ?_)|((with_reducible apply TX.cond_true);(focus rfl);(focus (first|rfl|(simp only[z1,zn,h4];done))))|((with_reducible apply TX.cond_false);(focus rfl);(focus (first|rfl|(simp only[z1,zn,h4];done))))|((with_reducible apply TM.cond_true);(focus rfl);(focus (first|rfl|(simp only[z1,zn,h4];done))))|((with_reducible apply TM.cond_false);(focus rfl);(focus (first|rfl|(simp only[z1,zn,h4];done))))|fail)
    cases hr
    refine⟨rfl,?_⟩
    have T:=an h4 T
    exact wk_ T [some 0,some 1] rfl (rv (.rows .nil rfl rfl) rfl)
   ·repeat (first|(with_reducible first|refine mv ?_|refine m12 rfl ?_|refine TO.nil ?_)|((with_reducible first|apply TO.ld|apply TO.mv);(repeat (focus (show _=_;first|exact k1 rfl|exact k2 rfl|(simp only[zz,y54,e_i,Nat.reduceAdd,Nat.reduceMul,Nat.reduceLeDiff,Nat.reduceEqDiff,tload,bD,bC,List.getElem?_map,h4]<;>exact rfl)|exact rfl)));(with_reducible apply TO.here))|((with_reducible apply TX.region);(focus (simp only[zl]<;>exact rfl));(focus rfl);(try dsimp only))|((with_reducible apply TX.cond_true);(focus rfl);(focus (first|rfl|(simp only[z1,zn,h4];done))))|((with_reducible apply TX.cond_false);(focus rfl);(focus (first|rfl|(simp only[z1,zn,h4];done))))|((with_reducible apply TM.cond_true);(focus rfl);(focus (first|rfl|(simp only[z1,zn,h4];done))))|((with_reducible apply TM.cond_false);(focus rfl);(focus (first|rfl|(simp only[z1,zn,h4];done))))|fail)
    have T:=an h4 T
    apply TO.pop1 (wn T) (uA rfl rfl (by decide))
    repeat exact sd T
    refine wa_ T (g:=?_)
    apply TO.bm e_i ([(wZ .and .i64 v13 1)]:List Int) (wn T) rfl (by simp only[zz,y54,e_i,Nat.reduceAdd,Nat.reduceMul,Nat.reduceLeDiff,Nat.reduceEqDiff,tslice,tparts,h4];exact rfl) rfl
    repeat exact sd T
    refine wa_ T (g:=?_)
    obtain⟨v14,h5,hr⟩:=bs hr
    apply TO.ap (f:=e_i) (xs:=v9) (ys:=([(wZ .and .i64 v13 1)]:List Int)) (wn T) rfl rfl (by first|rfl|simp only[List.length_set]) rfl rfl so23 ni23 zc3 rfl (by rw[by3];exact h5) (fun _=>⟨rfl,rfl,rfl⟩)
    repeat exact sd T
    refine wa_ T (g:=?_)
    cases hr
    refine⟨rfl,?_⟩
    exact wk_ T [some 0,some 1] rfl (rv (.rows .nil rfl rfl) rfl)
  ·rcases v15 with v16|v17
   ·try dsimp only at hr
    try dsimp only
    refine wA T (g:=?_)
    cases hr
    refine⟨.inr rfl,_,(ry T),?_⟩
    exact wr [some 1] rfl (.rows .nil rfl rfl)
   ·try dsimp only at hr
    try dsimp only
    refine wA T (g:=?_)
    cases hr
    refine⟨.inr rfl,_,(ry T),?_⟩
    exact wr [some 1] rfl (.rows .nil rfl rfl)
 rfl
def y55:=an @ag3 <| an @ag72 <| an @cs3 <| an @cs72 <| an @ok3 <| an @ok72 <| an @so23 <| @bP
theorem pQ{v1:Int}{v2:(List Int)}{v3:Int}{v4:(List Int)}(hr:eK v1 v2 v3=some (v4)):Spec (lim Try.prog) 48 [.agg [.v (.int .i64 v1),.list 1 (v2.map e_i)],.v (.int .i64 v3)] ⟨[.lsl 0 0 v4.length],[.rows 1 (v4.map e_i)]⟩:=by
 unfold eK at hr
 have T:=an y55 <| @e_i.eq_1
 apply Spec.fn Try.func48 rfl
 focus (simp[Try.f48]<;>exact rfl)
 focus
  refine wB T (g:=?_)
  obtain⟨v5,h1,hr⟩:=bs hr
  apply TD.cal (wn T) rfl Ai (aW h1) rfl rfl rfl
  repeat exact sd T
  refine wa_ T (g:=?_)
  obtain⟨v6,h2,hr⟩:=bs hr
  apply TD.cal (wn T) rfl aBA (qE h2) rfl rfl rfl
  repeat exact sd T
  refine wc_ T (g:=?_)
  obtain⟨v12,h7,hr⟩:=bs hr
  refine TX.loopE (step:=dC v6) (x:=(v6,0)) h7 (fun (v7,v8)=>⟨.Z::.Z::.Z::.Z::.Z::.lsl 0 0 v7.length::.Z::.Z::.Z::.Z::.Z::.Z::.Z::.lsl 0 0 v7.length::.v (.int .i64 (v6.length:Int))::.v (.int .i64 v8)::.Z::.Z::.Z::.Z::.Z::.Z::.Z::.Z::.Z::.Z::.Z::.Z::[],[.rows 1 (v7.map e_i)]⟩) (fun v10=>(.exit 0,⟨.Z::.Z::.Z::.Z::.Z::.lsl 0 0 v10.length::.Z::.Z::.Z::.Z::.Z::.Z::.Z::.Z::.Z::.Z::.Z::.Z::.Z::.Z::.Z::.Z::.Z::.Z::.Z::.Z::.Z::.Z::[],[.rows 1 (v10.map e_i)]⟩)) ?_ ?_ ?_ ?_
  ·rintro⟨v7,v8⟩ v0 hr
   dsimp only[dC] at hr
   try dsimp only
   refine wa_ T (g:=?_)
   rcases ifs hr with⟨h5,hr⟩|⟨h5,hr⟩
   ·have T:=an h5 T
    refine wa_ T (g:=?_)
    obtain⟨v11,h6,hr⟩:=bs hr
    have h6m:=jU (f:=e_i) h6
    have h6l:=jQ h6
    try simp only[List.length_set] at h6l
    have h6a:=kL h6
    have T:=an h6m T
    have T:=an h6l T
    have T:=an h6a T
    refine wA T (g:=?_)
    apply TO.sr e_i v7 v11 (IntKind.i64.wrap (1-(IntKind.i64.wrap (2*v11)))) h6a (wn T) rfl rfl rfl rfl rfl ok3 (by rw[cs3];rfl) rfl rfl rfl rfl
    repeat exact sd T
    refine wa_ T (g:=?_)
    cases hr
    refine⟨rfl,?_⟩
    exact wk_ T [some 0] rfl (.rows .nil rfl rfl)
   ·have T:=an h5 T
    refine wa_ T (g:=?_)
    cases hr
    refine⟨rfl,?_⟩
    exact wk_ T [some 0] rfl (.rows .nil rfl rfl)
  ·intro e h;cases h
  ·try dsimp only
   refine wa_ T (g:=?_)
   cases hr
   refine⟨.inr rfl,_,(ry T),?_⟩
   exact wr [some 0] rfl (.rows .nil rfl rfl)
  ·try dsimp only
   exact wr [some 0] rfl (.rows .nil rfl rfl)
 rfl
def y56:=an @ag72 <| an @cs23 <| an @cs72 <| an @ok23 <| an @ok72 <| @zc23
theorem kG{v1:Int}{v2:(List Int)}{v3:Int}{v4:(List Int)}(hr:bG v1 v2 v3=some (v4)):Spec (lim Try.prog) 38 [.agg [.v (.int .i64 v1),.list 1 (v2.map e_i)],.v (.int .i64 v3)] ⟨[.func 71 [] [.fptr true [.list 1 (v4.map e_i)] 0]],[]⟩:=by
 unfold bG at hr
 have T:=an y56 <| @e_i.eq_1
 apply Spec.fn Try.func38 rfl
 focus (simp[Try.f38]<;>exact rfl)
 focus
  refine wB T (g:=?_)
  obtain⟨v5,h1,hr⟩:=bs hr
  apply TO.cal (wn T) rfl aBE (pQ h1) rfl rfl rfl
  repeat exact sd T
  refine wa_ T (g:=?_)
  apply TO.frz 0 rfl rfl
  repeat exact sd T
  refine wa_ T (g:=?_)
  apply TO.frz 1 rfl rfl
  repeat exact sd T
  refine wa_ T (g:=?_)
  cases hr
  refine⟨.inr rfl,_,(ry T),?_⟩
  exact wr [] rfl .nil
 rfl
theorem xR{v1:Int}{v2:Int}{v3:Int}(hr:lC v1 v2=some (v3)):Spec (lim Try.prog) 28 [.v (.int .i64 v1),.v (.int .i64 v2)] ⟨[.v (.int .i64 v3)],[]⟩:=by
 unfold lC at hr
 have T:=trivial
 apply Spec.fn Try.func28 rfl
 focus (simp[Try.f28]<;>exact rfl)
 focus
  refine wa_ T (g:=?_)
  by_cases h1:v2=0
  ·rw[if_pos h1] at hr
   cases hr
  ·rw[if_neg h1] at hr
   have T:=an h1 T
   refine wa_ T (g:=?_)
   cases hr
   refine⟨.inr rfl,_,(ry T),?_⟩
   exact wr [] rfl .nil
 rfl
def y57:=an @ag23 <| an @ag3 <| an @cs3 <| an @ok3 <| @so23
theorem gD{v1:Int}{v2:(List Int)}{v3:Int}(hr:aX v1 v2=some (v3)):Spec (lim Try.prog) 71 [.v (.int .i64 v1),.fptr true [.list 1 (v2.map e_i)] 0] ⟨[.v (.int .i64 v3)],[]⟩:=by
 unfold aX at hr
 have T:=an y57 <| @e_i.eq_1
 apply Spec.fn Try.func71 rfl
 focus (simp[Try.f71]<;>exact rfl)
 focus
  refine wC T (g:=?_)
  obtain⟨v4,h1,hr⟩:=bs hr
  apply TD.cal (wn T) rfl aAD (xR h1) rfl rfl rfl
  repeat exact sd T
  refine wa_ T (g:=?_)
  obtain⟨v5,h2,hr⟩:=bs hr
  have T:=an (gx e_i h2) T
  refine wA T (g:=?_)
  cases hr
  refine⟨.inr rfl,_,(ry T),?_⟩
  exact wr [] rfl .nil
 rfl
def y58:=@ag77
theorem pF{v1:Int}{v2:Int}{v3:(List Int)}{v4:Int}(hr:hU v1 v2 v3=some (v4)):Spec (lim Try.prog) 52 [.v (.int .i64 v1),.v (.int .i64 v2),.fptr true [.func 71 [] [.fptr true [.list 1 (v3.map e_i)] 0]] 0] ⟨[.v (.int .i64 v4)],[]⟩:=by
 unfold hU at hr
 have T:=an y58 <| @e_i.eq_1
 apply Spec.fn Try.func52 rfl
 focus (simp[Try.f52]<;>exact rfl)
 focus
  refine wA T (g:=?_)
  obtain⟨v5,h1,hr⟩:=bs hr
  apply TO.cal (wn T) rfl Wy (gD h1) rfl rfl rfl
  repeat exact sd T
  refine wa_ T (g:=?_)
  cases hr
  refine⟨.inr rfl,_,(ry T),?_⟩
  exact wr [] rfl .nil
 rfl
def y59:=an @ag3 <| an @ag91 <| an @cs91 <| an @tJ <| an @tY <| an @ok91 <| an @st91 <| @zc91
theorem kH{v1:Int}{v2:Int}{v3:Int}{v4:Int}{v5:Int}(hr:cN v1 v2 v3=some (v4,v5)):Spec (lim Try.prog) 73 [.agg [.v (.int .i64 v1),.v (.int .i64 v2)],.v (.int .i64 v3)] ⟨[.agg [.v (.int .i64 v4),.v (.int .i64 v5)]],[]⟩:=by
 unfold cN at hr
 have T:=y59
 apply Spec.fn Try.func73 rfl
 focus (simp[Try.f73]<;>exact rfl)
 focus
  refine wB T (g:=?_)
  cases hr
  refine⟨.inr rfl,_,(ry T),?_⟩
  exact wr [] rfl .nil
 rfl
end Go.Rex
namespace Go.Rex
open Go.Proofs
open Go Go.Rex Go.RowKit
set_option maxRecDepth 100000
set_option maxHeartbeats 1000000
def y60:=an @ag91 <| an @by91 <| an @cs91 <| an @ok91 <| an @so79 <| an @zc91 <| @bP
theorem rR{v1:(List (Int×Int))}{v2:(List Int)}{v3:(List (Int×Int))}(hr:eQ v1 v2=some (v3)):Spec (lim Try.prog) 39 [.list 2 (v1.map e_ii),.func 52 [] [.fptr true [.func 71 [] [.fptr true [.list 1 (v2.map e_i)] 0]] 0]] ⟨[.lsl 0 0 v3.length],[.rows 2 (v3.map e_ii)]⟩:=by
 unfold eQ at hr
 have T:=an y60 <| an @e_i.eq_1 <| @e_ii.eq_1
 apply Spec.fn Try.func39 rfl
 focus (simp[Try.f39]<;>exact rfl)
 focus
  refine wc_ T (g:=?_)
  obtain⟨v4,h1,hr⟩:=bs hr
  apply TO.mk e_ii h1 (wn T) rfl rfl so79 zc91 by91 rfl rfl rfl
  repeat exact sd T
  refine wc_ T (g:=?_)
  obtain⟨v52,h30,hr⟩:=bs hr
  refine TX.loopE (step:=cU v1 v2 v4) (x:=(v4,0)) h30 (fun (v5,v6)=>⟨.list 2 (v1.map e_ii)::.func 52 [] [.fptr true [.func 71 [] [.fptr true [.list 1 (v2.map e_i)] 0]] 0]::.Z::.Z::.Z::.lsl 0 0 v5.length::.Z::.Z::.Z::.Z::.Z::.Z::.Z::.v (.int .i64 (v4.length:Int))::.v (.int .i64 v6)::.Z::.Z::.Z::.Z::.Z::.Z::.Z::.Z::.Z::.Z::.Z::.Z::.Z::.Z::.Z::.Z::.Z::.Z::.Z::.Z::.Z::.Z::.Z::.Z::.Z::.Z::[],[.rows 2 (v5.map e_ii)]⟩) (fun v29=>(.exit 0,⟨.Z::.Z::.Z::.Z::.Z::.lsl 0 0 v29.length::.Z::.Z::.Z::.Z::.Z::.Z::.Z::.Z::.Z::.Z::.Z::.Z::.Z::.Z::.Z::.Z::.Z::.Z::.Z::.Z::.Z::.Z::.Z::.Z::.Z::.Z::.Z::.Z::.Z::.Z::.Z::.Z::.Z::.Z::.Z::[],[.rows 2 (v29.map e_ii)]⟩)) ?_ ?_ ?_ ?_
  ·rintro⟨v5,v6⟩ v0 hr
   dsimp only[cU] at hr
   try dsimp only
   refine wa_ T (g:=?_)
   rcases ifs hr with⟨h16,hr⟩|⟨h16,hr⟩
   ·have T:=an h16 T
    refine wc_ T (g:=?_)
    obtain⟨v51,h29,hr⟩:=bs hr
    refine TX.loopE (step:=bM v1 v2 v6) (x:=(v5,0)) h29 (fun (v30,v31)=>⟨.list 2 (v1.map e_ii)::.func 52 [] [.fptr true [.func 71 [] [.fptr true [.list 1 (v2.map e_i)] 0]] 0]::.Z::.Z::.Z::.lsl 0 0 v30.length::.v (.int .i64 v6)::.Z::.Z::.Z::.Z::.Z::.Z::.v (.int .i64 (v4.length:Int))::.v (.int .i64 v6)::.Z::.Z::.list 2 (v1.map e_ii)::.v (.int .i64 (v1.length:Int))::.v (.int .i64 v31)::.Z::.Z::.Z::.Z::.Z::.Z::.Z::.Z::.Z::.Z::.Z::.Z::.Z::.Z::.Z::.Z::.Z::.Z::.Z::.Z::.Z::[],[.rows 2 (v30.map e_ii)]⟩) (fun v41=>(.exit 2,⟨.list 2 (v1.map e_ii)::.func 52 [] [.fptr true [.func 71 [] [.fptr true [.list 1 (v2.map e_i)] 0]] 0]::.Z::.Z::.Z::.lsl 0 0 v41.length::.Z::.Z::.Z::.Z::.Z::.Z::.Z::.v (.int .i64 (v4.length:Int))::.v (.int .i64 v6)::.Z::.Z::.Z::.Z::.Z::.Z::.Z::.Z::.Z::.Z::.Z::.Z::.Z::.Z::.Z::.Z::.Z::.Z::.Z::.Z::.Z::.Z::.Z::.Z::.Z::.Z::[],[.rows 2 (v41.map e_ii)]⟩)) ?_ ?_ ?_ ?_
    ·rintro⟨v30,v31⟩ v0 hr
     dsimp only[bM] at hr
     try dsimp only
     refine wa_ T (g:=?_)
     rcases ifs hr with⟨h23,hr⟩|⟨h23,hr⟩
     ·have T:=an h23 T
      refine wa_ T (g:=?_)
      obtain⟨⟨v42,v43⟩,h24,hr⟩:=bs hr
      try dsimp only at hr
      have T:=an (gx e_ii h24) T
      refine wA T (g:=?_)
      obtain⟨⟨v44,v45⟩,h25,hr⟩:=bs hr
      try dsimp only at hr
      have h25m:=jU (f:=e_ii) h25
      have h25l:=jQ h25
      try simp only[List.length_set] at h25l
      have h25a:=kL h25
      have T:=an h25m T
      have T:=an h25l T
      have T:=an h25a T
      refine wA T (g:=?_)
      obtain⟨v46,h26,hr⟩:=bs hr
      apply TD.cal (wn T) rfl aBh (pF h26) rfl rfl rfl
      repeat exact sd T
      refine wa_ T (g:=?_)
      obtain⟨⟨v47,v48⟩,h27,hr⟩:=bs hr
      try dsimp only at hr
      apply TD.cal (wn T) rfl Yu (kH h27) rfl rfl rfl
      repeat exact sd T
      refine wa_ T (g:=?_)
      obtain⟨⟨v49,v50⟩,h28,hr⟩:=bs hr
      try dsimp only at hr
      apply TD.cal (wn T) rfl Ka (gA h28) rfl rfl rfl
      repeat exact sd T
      refine wa_ T (g:=?_)
      apply TD.sr e_ii v30 (v44,v45) (v49,v50) h25a (wn T) rfl rfl rfl rfl rfl ok91 (by rw[cs91];rfl) rfl rfl rfl rfl rfl
      repeat exact sd T
      refine wa_ T (g:=?_)
      cases hr
      refine⟨rfl,?_⟩
      exact wk_ T [some 0] rfl (.rows .nil rfl rfl)
     ·have T:=an h23 T
      refine wa_ T (g:=?_)
      cases hr
      refine⟨rfl,?_⟩
      exact wk_ T [some 0] rfl (.rows .nil rfl rfl)
    ·intro e h;cases h
    ·try dsimp only
     refine wa_ T (g:=?_)
     cases hr
     refine⟨rfl,?_⟩
     exact wk_ T [some 0] rfl (.rows .nil rfl rfl)
    ·try dsimp only
     exact wk_ T [some 0] rfl (.rows .nil rfl rfl)
   ·have T:=an h16 T
    refine wa_ T (g:=?_)
    cases hr
    refine⟨rfl,?_⟩
    exact wk_ T [some 0] rfl (.rows .nil rfl rfl)
  ·intro e h;cases h
  ·try dsimp only
   refine wa_ T (g:=?_)
   cases hr
   refine⟨.inr rfl,_,(ry T),?_⟩
   exact wr [some 0] rfl (.rows .nil rfl rfl)
  ·try dsimp only
   exact wr [some 0] rfl (.rows .nil rfl rfl)
 rfl
def y61:=an @ag25 <| an @ag72 <| an @cs25 <| an @cs64 <| an @cs72 <| an @cs77 <| an @ok25 <| an @ok72 <| an @ok77 <| an @so99 <| an @st72 <| an @zc64 <| an @zc72 <| @zc77
theorem xD{v1:(List (Nat×Nat))}{v2:Int}{v3:(List Int)}{v4:Int}{v5:(List (Nat×Nat))}{v6:Int}(hr:eX v1 v2 v3 v4=some (v5,v6)):Spec (lim Try.prog) 16 [.list 1 (v1.map e_c),.agg [.v (.int .i64 v2),.list 1 (v3.map e_i)],.v (.int .i64 v4)] ⟨[.tuple [.lsl 0 0 v5.length,.v (.int .i64 v6)]],[.rows 1 (v5.map e_c)]⟩:=by
 unfold eX at hr
 have T:=an y61 <| an @e_c.eq_1 <| @e_i.eq_1
 apply Spec.fn Try.func16 rfl
 focus (simp[Try.f16]<;>exact rfl)
 focus
  refine wB T (g:=?_)
  obtain⟨v7,h1,hr⟩:=bs hr
  apply TD.cal (wn T) rfl yZ (fP h1) rfl rfl rfl
  repeat exact sd T
  refine wA T (g:=?_)
  obtain⟨⟨v8,v9,v10⟩,h2,hr⟩:=bs hr
  try dsimp only at hr
  apply TD.cal (wn T) rfl Xs (jE h2) rfl rfl rfl
  repeat exact sd T
  refine we_ T (g:=?_)
  obtain⟨v11,h3,hr⟩:=bs hr
  apply TD.cal (wn T) rfl nJ (pL h3) rfl rfl rfl
  repeat exact sd T
  refine wa_ T (g:=?_)
  rcases ifs hr with⟨h4,hr⟩|⟨h4,hr⟩
  ·have T:=an h4 T
   refine wa_ T (g:=?_)
   cases hr
   refine⟨.inr rfl,_,(ry T),?_⟩
   exact wk_ T [none] rfl (.virt .nil)
  ·have T:=an h4 T
   refine wa_ T (g:=?_)
   obtain⟨v12,h5,hr⟩:=bs hr
   apply TD.cal (wn T) rfl zR (dJ h5) rfl rfl rfl
   repeat exact sd T
   refine wA T (g:=?_)
   obtain⟨v13,h6,hr⟩:=bs hr
   apply TD.cal (wn T) rfl Ai (aW h6) rfl rfl rfl
   repeat exact sd T
   refine wa_ T (g:=?_)
   obtain⟨v14,h7,hr⟩:=bs hr
   apply TD.lok (wn T) rfl aAY (vP h7) (vw T) rfl rfl (by simp[oG,cl,e_i,e_c,e_ii])
   repeat exact sd T
   refine wA T (g:=?_)
   obtain⟨v15,h8,hr⟩:=bs hr
   apply TD.cal (wn T) rfl Wi (kG h8) rfl rfl rfl
   repeat exact sd T
   refine wa_ T (g:=?_)
   obtain⟨⟨v16,v17⟩,h9,hr⟩:=bs hr
   try dsimp only at hr
   apply TO.lok (wn T) rfl Cr (fT h9) (vw T) rfl rfl (by simp[oG,cl,e_i,e_c,e_ii])
   repeat exact sd T
   refine wa_ T (g:=?_)
   rcases ifs hr with⟨h10,hr⟩|⟨h10,hr⟩
   ·have T:=an h10 T
    refine wa_ T (g:=?_)
    cases hr
    refine⟨.inr rfl,_,(ry T),?_⟩
    exact wk_ T [none] rfl (.virt .nil)
   ·have T:=an h10 T
    refine wa_ T (g:=?_)
    apply TO.frz 3 rfl rfl
    repeat exact sd T
    refine wa_ T (g:=?_)
    obtain⟨v18,h11,hr⟩:=bs hr
    apply TO.lok (wn T) rfl Vo (rR h11) (vw T) rfl rfl (by simp[oG,cl,e_i,e_c,e_ii])
    repeat exact sd T
    refine wa_ T (g:=?_)
    obtain⟨⟨v19,v20⟩,h12,hr⟩:=bs hr
    try dsimp only at hr
    apply TO.lok (wn T) rfl Cr (fT h12) (vw T) rfl rfl (by simp[oG,cl,e_i,e_c,e_ii])
    repeat exact sd T
    refine wa_ T (g:=?_)
    cases hr
    refine⟨.inr rfl,_,(ry T),?_⟩
    exact wk_ T [some 6] rfl (.rows .nil rfl rfl)
 rfl
end Go.Rex
namespace Go.Rex
open Go.Proofs
open Go Go.Rex Go.RowKit
set_option maxRecDepth 100000
set_option maxHeartbeats 200000
def y62:=an @ag3 <| an @ag72 <| an @cs3 <| an @cs72 <| an @ok3 <| an @ok72 <| an @zc3 <| @mX
theorem oY{v1:Int}{v2:(List Int)}{v3:Int}{v4:Int}(hr:dU v1 v2 v3=some (v4)):Spec (lim Try.prog) 92 [.agg [.v (.int .i64 v1),.list 1 (v2.map e_i)],.v (.int .i64 v3)] ⟨[.v (.int .i64 v4)],[]⟩:=by
 unfold dU at hr
 have T:=an y62 <| @e_i.eq_1
 apply Spec.fnM Try.func92 rfl
 focus (simp[Try.f92]<;>exact rfl)
 focus
  refine wB T (g:=?_)
  obtain⟨v5,h1,hr⟩:=bs hr
  apply TD.cal (wn T) rfl Qy (lD h1) rfl rfl rfl
  repeat exact sd T
  refine wa_ T (g:=?_)
  obtain⟨⟨v6,v7,v8⟩,h2,hr⟩:=bs hr
  try dsimp only at hr
  apply TD.cal (wn T) rfl Xn (kN h2) rfl rfl rfl
  repeat exact sd T
  refine wa_ T (g:=?_)
  obtain⟨v13,h5,hr⟩:=bs hr
  refine TM.weak (s':=⟨.Z::.Z::.Z::.fptr true [.v (.int .i64 v3)] 0::.Z::.lptr 0 0 0::.Z::.Z::.Z::.Z::.Z::.func 105 [] [.fptr true [.v (.int .i64 v6)] 0,.fptr true [.v (.int .i64 v7),.list 1 (v8.map e_i)] 0]::.Z::.Z::.Z::.Z::.Z::.Z::.Z::[],[.var [.v (.int .i64 1)]]⟩) ?_ ?_
  ·exact wr [some 0] rfl (rv .nil rfl)
  refine TM.range (it:=fun {X}=>aJ v6 v7 v8) (enc:=fun a0=>[.v (.int .i64 a0)]) h5 (fun v9=>[.var [.v (.int .i64 v9)]]) (fun v11=>[.var [.v (.int .i64 v11)]]) (fun _=>.exit 0) rfl rfl Rw fW rfl rfl rfl (fun _=>rfl) (fun _=>.inr ⟨_,rfl⟩) ?_ ?_
  ·rintro v12 v9 r hr
   dsimp only[cP] at hr
   show TX _ _ _ ⟨.Z::.Z::.Z::.fptr true [.v (.int .i64 v3)] 0::.Z::.lptr 0 0 0::.Z::.Z::.Z::.Z::.Z::.func 105 [] [.fptr true [.v (.int .i64 v6)] 0,.fptr true [.v (.int .i64 v7),.list 1 (v8.map e_i)] 0]::.v (.int .i64 v12)::.Z::.Z::.Z::.Z::.Z::.Z::[],[.var [.v (.int .i64 v9)]]⟩ _
   refine wa_ T (g:=?_)
   refine⟨rfl,?_⟩
   repeat (first|(with_reducible first|refine mv ?_|refine m12 rfl ?_|refine TO.nil ?_)|((with_reducible first|apply TO.mv|apply TO.ld|apply TO.bin);(repeat (focus (show _=_;first|exact k1 rfl|exact k2 rfl|(simp only[zz,y62,e_i,Nat.reduceAdd,Nat.reduceMul,Nat.reduceLeDiff,Nat.reduceEqDiff,tload,bD,bC,List.getElem?_map]<;>exact rfl)|exact rfl)));(with_reducible apply TO.here))|((with_reducible apply TX.region);(focus (simp only[zl]<;>exact rfl));(focus rfl);(try dsimp only))|((with_reducible apply TX.cond_true);(focus rfl);(focus (first|rfl|(simp only[z1,zn];done))))|((with_reducible apply TX.cond_false);(focus rfl);(focus (first|rfl|(simp only[z1,zn];done))))|((with_reducible apply TM.cond_true);(focus rfl);(focus (first|rfl|(simp only[z1,zn];done))))|((with_reducible apply TM.cond_false);(focus rfl);(focus (first|rfl|(simp only[z1,zn];done))))|fail)
   rcases ifs hr with⟨h4,hr⟩|⟨h4,hr⟩
   ·repeat (first|(with_reducible first|refine mv ?_|refine m12 rfl ?_)|((with_reducible apply TX.cond_true);(focus rfl);(focus (first|rfl|(simp only[z1,zn,h4];done))))|((with_reducible apply TX.cond_false);(focus rfl);(focus (first|rfl|(simp only[z1,zn,h4];done))))|((with_reducible apply TM.cond_true);(focus rfl);(focus (first|rfl|(simp only[z1,zn,h4];done))))|((with_reducible apply TM.cond_false);(focus rfl);(focus (first|rfl|(simp only[z1,zn,h4];done))))|fail)
    cases hr
    refine⟨rfl,?_⟩
    have T:=an h4 T
    exact wk_ T [some 0] rfl (rv .nil rfl)
   ·repeat (first|(with_reducible first|refine mv ?_|refine m12 rfl ?_|refine TO.nil ?_)|((with_reducible first|apply TO.ld|apply TO.bin|apply TO.sv);(repeat (focus (show _=_;first|exact k1 rfl|exact k2 rfl|(simp only[zz,y62,e_i,Nat.reduceAdd,Nat.reduceMul,Nat.reduceLeDiff,Nat.reduceEqDiff,tload,bD,bC,List.getElem?_map,h4]<;>exact rfl)|exact rfl)));(with_reducible apply TO.here))|((with_reducible apply TX.region);(focus (simp only[zl]<;>exact rfl));(focus rfl);(try dsimp only))|((with_reducible apply TX.cond_true);(focus rfl);(focus (first|rfl|(simp only[z1,zn,h4];done))))|((with_reducible apply TX.cond_false);(focus rfl);(focus (first|rfl|(simp only[z1,zn,h4];done))))|((with_reducible apply TM.cond_true);(focus rfl);(focus (first|rfl|(simp only[z1,zn,h4];done))))|((with_reducible apply TM.cond_false);(focus rfl);(focus (first|rfl|(simp only[z1,zn,h4];done))))|fail)
    cases hr
    refine⟨rfl,?_⟩
    have T:=an h4 T
    exact wk_ T [some 0] rfl (rv .nil rfl)
  ·rcases v13 with v14|v15
   ·try dsimp only at hr
    try dsimp only
    refine wA T (g:=?_)
    cases hr
    refine⟨.inr rfl,_,(ry T),?_⟩
    exact wr [] rfl .nil
   ·try dsimp only at hr
    try dsimp only
    refine wA T (g:=?_)
    cases hr
    refine⟨.inr rfl,_,(ry T),?_⟩
    exact wr [] rfl .nil
 rfl
def y63:=an @ag72 <| an @cs72 <| @ok72
theorem nH{v1:Int}{v2:(List Int)}{v3:Bool}(hr:eH v1 v2=some (v3)):Spec (lim Try.prog) 69 [.agg [.v (.int .i64 v1),.list 1 (v2.map e_i)]] ⟨[.v (.bool v3)],[]⟩:=by
 unfold eH at hr
 have T:=an y63 <| @e_i.eq_1
 apply Spec.fn Try.func69 rfl
 focus (simp[Try.f69]<;>exact rfl)
 focus
  refine wB T (g:=?_)
  obtain⟨v4,h1,hr⟩:=bs hr
  apply TD.cal (wn T) rfl aA5 (oY h1) rfl rfl rfl
  repeat exact sd T
  refine wA T (g:=?_)
  obtain⟨v5,h2,hr⟩:=bs hr
  apply TD.cal (wn T) rfl Ai (aW h2) rfl rfl rfl
  repeat exact sd T
  refine wa_ T (g:=?_)
  cases hr
  refine⟨.inr rfl,_,(ry T),?_⟩
  exact wr [] rfl .nil
 rfl
def y64:=an @ag72 <| an @cs72 <| @ok72
theorem oL{v1:Int}{v2:(List Int)}{v3:Int}(hr:dN v1 v2=some (v3)):Spec (lim Try.prog) 34 [.agg [.v (.int .i64 v1),.list 1 (v2.map e_i)]] ⟨[.v (.int .i64 v3)],[]⟩:=by
 unfold dN at hr
 have T:=an y64 <| @e_i.eq_1
 apply Spec.fn Try.func34 rfl
 focus (simp[Try.f34]<;>exact rfl)
 focus
  refine wB T (g:=?_)
  obtain⟨v4,h1,hr⟩:=bs hr
  apply TO.cal (wn T) rfl aAW (nH h1) rfl rfl rfl
  repeat exact sd T
  refine wa_ T (g:=?_)
  apply TO.pop1 (wn T) (eB rfl)
  repeat exact sd T
  refine wa_ T (g:=?_)
  obtain⟨⟨v5,v6⟩,h2,hr⟩:=bs hr
  try dsimp only at hr
  apply TO.cal (wn T) rfl iX (aF h2) rfl rfl rfl
  repeat exact sd T
  refine wa_ T (g:=?_)
  obtain⟨v7,h3,hr⟩:=bs hr
  apply TO.cal (wn T) rfl nD (aD h3) rfl rfl rfl
  repeat exact sd T
  refine wa_ T (g:=?_)
  cases hr
  refine⟨.inr rfl,_,(ry T),?_⟩
  exact wr [] rfl .nil
 rfl
def y65:=an @ag32 <| an @ag72 <| an @cs72 <| an @ok72 <| @so32
theorem oX{v1:(List (Nat×Nat))}{v2:Int}{v3:(List Int)}{v4:Int}(hr:eA v1 v2 v3=some (v4)):Spec (lim Try.prog) 35 [.fptr true [.list 1 (v1.map e_c)] 0,.fptr true [.v (.int .i64 v2),.list 1 (v3.map e_i)] 0] ⟨[.v (.int .i64 v4)],[]⟩:=by
 unfold eA at hr
 have T:=an y65 <| an @e_c.eq_1 <| @e_i.eq_1
 apply Spec.fn Try.func35 rfl
 focus (simp[Try.f35]<;>exact rfl)
 focus
  refine wC T (g:=?_)
  obtain⟨v5,h1,hr⟩:=bs hr
  apply TD.cal (wn T) rfl Ai (aW h1) rfl rfl rfl
  repeat exact sd T
  refine wa_ T (g:=?_)
  obtain⟨⟨v6,v7⟩,h2,hr⟩:=bs hr
  try dsimp only at hr
  apply TD.cal (wn T) rfl iX (aF h2) rfl rfl rfl
  repeat exact sd T
  refine wa_ T (g:=?_)
  obtain⟨v8,h3,hr⟩:=bs hr
  apply TD.cal (wn T) rfl nD (aD h3) rfl rfl rfl
  repeat exact sd T
  refine wa_ T (g:=?_)
  cases hr
  refine⟨.inr rfl,_,(ry T),?_⟩
  exact wr [] rfl .nil
 rfl
end Go.Rex
namespace Go.Rex
open Go.Proofs
open Go Go.Rex Go.RowKit
set_option maxRecDepth 100000
set_option maxHeartbeats 1000000
def y66:=an @ag64 <| an @cs64 <| an @ok64 <| an @so99 <| an @bP <| an @mX <| an @rX <| an @Ld <| @Xu
theorem qD{v1:(List (Nat×Nat))}{v2:Int}{v3:(List Int)}{v4:Int}{v5:Int}{v6:(List Int)}{v7:Int}{v8:(List Int)}{v9:(List (Nat×Nat))}{v10:Int}{v11:(List Int)}{v12:Int}(hr:gV v1 v2 v3 v4 v5 v6 v7 v8 v9 v10 v11=some (v12)):Spec (lim Try.prog) 26 [.list 1 [[.func 63 [] [.fptr true [.list 1 (v1.map e_c)] 0]],[.func 32 [.agg [.v (.int .i64 v2),.list 1 (v3.map e_i)]] []],[.func 68 [] [.fptr true [.v (.int .i64 v4)] 0,.fptr true [.v (.int .i64 v5),.list 1 (v6.map e_i)] 0]],[.func 34 [.agg [.v (.int .i64 v7),.list 1 (v8.map e_i)]] []],[.func 35 [] [.fptr true [.list 1 (v9.map e_c)] 0,.fptr true [.v (.int .i64 v10),.list 1 (v11.map e_i)] 0]]]] ⟨[.v (.int .i64 v12)],[]⟩:=by
 unfold gV at hr
 have T:=an y66 <| an @e_c.eq_1 <| @e_i.eq_1
 apply Spec.fn Try.func26 rfl
 focus (simp[Try.f26]<;>exact rfl)
 focus
  refine wc_ T (g:=?_)
  refine TX.unroll ?_
  repeat (first|(with_reducible first|refine mv ?_|refine m12 rfl ?_|refine TO.nil ?_)|((with_reducible first|apply TO.bin|apply TO.ia|apply TO.ld|apply TO.asg|apply TO.mv);(repeat (focus (show _=_;first|exact k1 rfl|exact k2 rfl|(simp only[zz,y66,e_c,e_i,Nat.reduceAdd,Nat.reduceMul,Nat.reduceLeDiff,Nat.reduceEqDiff,aB,z5,Int.reduceToNat,Int.reduceLE,Int.reduceLT,Int.cast_ofNat_Int,tload,bD,bC,List.getElem?_map]<;>exact rfl)|exact rfl)));(with_reducible apply TO.here))|((with_reducible apply TX.region);(focus (simp only[zl]<;>exact rfl));(focus rfl);(try dsimp only))|((with_reducible apply TX.cond_true);(focus rfl);(focus (first|rfl|(simp only[z1,zn];done))))|((with_reducible apply TX.cond_false);(focus rfl);(focus (first|rfl|(simp only[z1,zn];done))))|fail)
  obtain⟨v13,h1,hr⟩:=bs hr
  apply TO.cal (wn T) rfl Al (bT h1) rfl rfl rfl
  repeat exact sd T
  refine wa_ T (g:=?_)
  rcases ifs hr with⟨h2,hr⟩|⟨h2,hr⟩
  ·have T:=an h2 T
   refine wa_ T (g:=?_)
   cases hr
   refine⟨.inr rfl,_,(ry T),?_⟩
   exact wk_ T [] rfl .nil
  ·have T:=an h2 T
   refine wa_ T (g:=?_)
   refine TX.unroll ?_
   repeat (first|(with_reducible first|refine mv ?_|refine m12 rfl ?_|refine TO.nil ?_)|((with_reducible first|apply TO.bin|apply TO.ia|apply TO.ld|apply TO.asg|apply TO.mv);(repeat (focus (show _=_;first|exact k1 rfl|exact k2 rfl|(simp only[zz,y66,e_c,e_i,Nat.reduceAdd,Nat.reduceMul,Nat.reduceLeDiff,Nat.reduceEqDiff,aB,z5,Int.reduceToNat,Int.reduceLE,Int.reduceLT,Int.cast_ofNat_Int,tload,bD,bC,List.getElem?_map,h2]<;>exact rfl)|exact rfl)));(with_reducible apply TO.here))|((with_reducible apply TX.region);(focus (simp only[zl]<;>exact rfl));(focus rfl);(try dsimp only))|((with_reducible apply TX.cond_true);(focus rfl);(focus (first|rfl|(simp only[z1,zn,h2];done))))|((with_reducible apply TX.cond_false);(focus rfl);(focus (first|rfl|(simp only[z1,zn,h2];done))))|fail)
   obtain⟨v14,h3,hr⟩:=bs hr
   apply TO.cal (wn T) rfl Xe (kY h3) rfl rfl rfl
   repeat exact sd T
   refine wa_ T (g:=?_)
   rcases ifs hr with⟨h4,hr⟩|⟨h4,hr⟩
   ·have T:=an h4 T
    refine wa_ T (g:=?_)
    cases hr
    refine⟨.inr rfl,_,(ry T),?_⟩
    exact wk_ T [] rfl .nil
   ·have T:=an h4 T
    refine wa_ T (g:=?_)
    refine TX.unroll ?_
    repeat (first|(with_reducible first|refine mv ?_|refine m12 rfl ?_|refine TO.nil ?_)|((with_reducible first|apply TO.bin|apply TO.ia|apply TO.ld|apply TO.asg|apply TO.mv);(repeat (focus (show _=_;first|exact k1 rfl|exact k2 rfl|(simp only[zz,y66,e_c,e_i,Nat.reduceAdd,Nat.reduceMul,Nat.reduceLeDiff,Nat.reduceEqDiff,aB,z5,Int.reduceToNat,Int.reduceLE,Int.reduceLT,Int.cast_ofNat_Int,tload,bD,bC,List.getElem?_map,h2,h4]<;>exact rfl)|exact rfl)));(with_reducible apply TO.here))|((with_reducible apply TX.region);(focus (simp only[zl]<;>exact rfl));(focus rfl);(try dsimp only))|((with_reducible apply TX.cond_true);(focus rfl);(focus (first|rfl|(simp only[z1,zn,h2,h4];done))))|((with_reducible apply TX.cond_false);(focus rfl);(focus (first|rfl|(simp only[z1,zn,h2,h4];done))))|fail)
    obtain⟨v15,h5,hr⟩:=bs hr
    apply TO.cal (wn T) rfl Vu (fJ h5) rfl rfl rfl
    repeat exact sd T
    refine wa_ T (g:=?_)
    rcases ifs hr with⟨h6,hr⟩|⟨h6,hr⟩
    ·have T:=an h6 T
     refine wa_ T (g:=?_)
     cases hr
     refine⟨.inr rfl,_,(ry T),?_⟩
     exact wk_ T [] rfl .nil
    ·have T:=an h6 T
     refine wa_ T (g:=?_)
     refine TX.unroll ?_
     repeat (first|(with_reducible first|refine mv ?_|refine m12 rfl ?_|refine TO.nil ?_)|((with_reducible first|apply TO.bin|apply TO.ia|apply TO.ld|apply TO.asg|apply TO.mv);(repeat (focus (show _=_;first|exact k1 rfl|exact k2 rfl|(simp only[zz,y66,e_c,e_i,Nat.reduceAdd,Nat.reduceMul,Nat.reduceLeDiff,Nat.reduceEqDiff,aB,z5,Int.reduceToNat,Int.reduceLE,Int.reduceLT,Int.cast_ofNat_Int,tload,bD,bC,List.getElem?_map,h2,h4,h6]<;>exact rfl)|exact rfl)));(with_reducible apply TO.here))|((with_reducible apply TX.region);(focus (simp only[zl]<;>exact rfl));(focus rfl);(try dsimp only))|((with_reducible apply TX.cond_true);(focus rfl);(focus (first|rfl|(simp only[z1,zn,h2,h4,h6];done))))|((with_reducible apply TX.cond_false);(focus rfl);(focus (first|rfl|(simp only[z1,zn,h2,h4,h6];done))))|fail)
     obtain⟨v16,h7,hr⟩:=bs hr
     apply TO.cal (wn T) rfl aBd (oL h7) rfl rfl rfl
     repeat exact sd T
     refine wa_ T (g:=?_)
     rcases ifs hr with⟨h8,hr⟩|⟨h8,hr⟩
     ·have T:=an h8 T
      refine wa_ T (g:=?_)
      cases hr
      refine⟨.inr rfl,_,(ry T),?_⟩
      exact wk_ T [] rfl .nil
     ·have T:=an h8 T
      refine wa_ T (g:=?_)
      refine TX.unroll ?_
      repeat (first|(with_reducible first|refine mv ?_|refine m12 rfl ?_|refine TO.nil ?_)|((with_reducible first|apply TO.bin|apply TO.ia|apply TO.ld|apply TO.asg|apply TO.mv);(repeat (focus (show _=_;first|exact k1 rfl|exact k2 rfl|(simp only[zz,y66,e_c,e_i,Nat.reduceAdd,Nat.reduceMul,Nat.reduceLeDiff,Nat.reduceEqDiff,aB,z5,Int.reduceToNat,Int.reduceLE,Int.reduceLT,Int.cast_ofNat_Int,tload,bD,bC,List.getElem?_map,h2,h4,h6,h8]<;>exact rfl)|exact rfl)));(with_reducible apply TO.here))|((with_reducible apply TX.region);(focus (simp only[zl]<;>exact rfl));(focus rfl);(try dsimp only))|((with_reducible apply TX.cond_true);(focus rfl);(focus (first|rfl|(simp only[z1,zn,h2,h4,h6,h8];done))))|((with_reducible apply TX.cond_false);(focus rfl);(focus (first|rfl|(simp only[z1,zn,h2,h4,h6,h8];done))))|fail)
      obtain⟨v17,h9,hr⟩:=bs hr
      apply TO.cal (wn T) rfl aA3 (oX h9) rfl rfl rfl
      repeat exact sd T
      refine wa_ T (g:=?_)
      rcases ifs hr with⟨h10,hr⟩|⟨h10,hr⟩
      ·have T:=an h10 T
       refine wa_ T (g:=?_)
       cases hr
       refine⟨.inr rfl,_,(ry T),?_⟩
       exact wk_ T [] rfl .nil
      ·have T:=an h10 T
       refine wa_ T (g:=?_)
       refine TX.unroll ?_
       refine wa_ T (g:=?_)
       cases hr
       refine⟨.inr rfl,_,(ry T),?_⟩
       exact wk_ T [] rfl .nil
 rfl
end Go.Rex
namespace Go.Rex
open Go.Proofs
open Go Go.Rex Go.RowKit
set_option maxRecDepth 100000
set_option maxHeartbeats 200000
def y67:=@ag77
theorem oW{v1:Int}{v2:Int}{v3:(List Int)}{v4:Int}(hr:dS v1 v2 v3=some (v4)):Spec (lim Try.prog) 41 [.v (.int .i64 v1),.v (.int .i64 v2),.fptr true [.func 71 [] [.fptr true [.list 1 (v3.map e_i)] 0]] 0] ⟨[.v (.int .i64 v4)],[]⟩:=by
 unfold dS at hr
 have T:=an y67 <| @e_i.eq_1
 apply Spec.fn Try.func41 rfl
 focus (simp[Try.f41]<;>exact rfl)
 focus
  refine wA T (g:=?_)
  obtain⟨v5,h1,hr⟩:=bs hr
  apply TO.cal (wn T) rfl Wy (gD h1) rfl rfl rfl
  repeat exact sd T
  refine wa_ T (g:=?_)
  cases hr
  refine⟨.inr rfl,_,(ry T),?_⟩
  exact wr [] rfl .nil
 rfl
end Go.Rex
namespace Go.Rex
open Go.Proofs
open Go Go.Rex Go.RowKit
set_option maxRecDepth 100000
set_option maxHeartbeats 1000000
def y68:=an @ag91 <| an @by91 <| an @cs91 <| an @ok91 <| an @so79 <| an @zc91 <| @bP
theorem rW{v1:(List (Int×Int))}{v2:(List Int)}{v3:(List (Int×Int))}(hr:eR v1 v2=some (v3)):Spec (lim Try.prog) 39 [.list 2 (v1.map e_ii),.func 41 [] [.fptr true [.func 71 [] [.fptr true [.list 1 (v2.map e_i)] 0]] 0]] ⟨[.lsl 0 0 v3.length],[.rows 2 (v3.map e_ii)]⟩:=by
 unfold eR at hr
 have T:=an y68 <| an @e_i.eq_1 <| @e_ii.eq_1
 apply Spec.fn Try.func39 rfl
 focus (simp[Try.f39]<;>exact rfl)
 focus
  refine wc_ T (g:=?_)
  obtain⟨v4,h1,hr⟩:=bs hr
  apply TO.mk e_ii h1 (wn T) rfl rfl so79 zc91 by91 rfl rfl rfl
  repeat exact sd T
  refine wc_ T (g:=?_)
  obtain⟨v52,h30,hr⟩:=bs hr
  refine TX.loopE (step:=cV v1 v2 v4) (x:=(v4,0)) h30 (fun (v5,v6)=>⟨.list 2 (v1.map e_ii)::.func 41 [] [.fptr true [.func 71 [] [.fptr true [.list 1 (v2.map e_i)] 0]] 0]::.Z::.Z::.Z::.lsl 0 0 v5.length::.Z::.Z::.Z::.Z::.Z::.Z::.Z::.v (.int .i64 (v4.length:Int))::.v (.int .i64 v6)::.Z::.Z::.Z::.Z::.Z::.Z::.Z::.Z::.Z::.Z::.Z::.Z::.Z::.Z::.Z::.Z::.Z::.Z::.Z::.Z::.Z::.Z::.Z::.Z::.Z::.Z::[],[.rows 2 (v5.map e_ii)]⟩) (fun v29=>(.exit 0,⟨.Z::.Z::.Z::.Z::.Z::.lsl 0 0 v29.length::.Z::.Z::.Z::.Z::.Z::.Z::.Z::.Z::.Z::.Z::.Z::.Z::.Z::.Z::.Z::.Z::.Z::.Z::.Z::.Z::.Z::.Z::.Z::.Z::.Z::.Z::.Z::.Z::.Z::.Z::.Z::.Z::.Z::.Z::.Z::[],[.rows 2 (v29.map e_ii)]⟩)) ?_ ?_ ?_ ?_
  ·rintro⟨v5,v6⟩ v0 hr
   dsimp only[cV] at hr
   try dsimp only
   refine wa_ T (g:=?_)
   rcases ifs hr with⟨h16,hr⟩|⟨h16,hr⟩
   ·have T:=an h16 T
    refine wc_ T (g:=?_)
    obtain⟨v51,h29,hr⟩:=bs hr
    refine TX.loopE (step:=bK v1 v2 v6) (x:=(v5,0)) h29 (fun (v30,v31)=>⟨.list 2 (v1.map e_ii)::.func 41 [] [.fptr true [.func 71 [] [.fptr true [.list 1 (v2.map e_i)] 0]] 0]::.Z::.Z::.Z::.lsl 0 0 v30.length::.v (.int .i64 v6)::.Z::.Z::.Z::.Z::.Z::.Z::.v (.int .i64 (v4.length:Int))::.v (.int .i64 v6)::.Z::.Z::.list 2 (v1.map e_ii)::.v (.int .i64 (v1.length:Int))::.v (.int .i64 v31)::.Z::.Z::.Z::.Z::.Z::.Z::.Z::.Z::.Z::.Z::.Z::.Z::.Z::.Z::.Z::.Z::.Z::.Z::.Z::.Z::.Z::[],[.rows 2 (v30.map e_ii)]⟩) (fun v41=>(.exit 2,⟨.list 2 (v1.map e_ii)::.func 41 [] [.fptr true [.func 71 [] [.fptr true [.list 1 (v2.map e_i)] 0]] 0]::.Z::.Z::.Z::.lsl 0 0 v41.length::.Z::.Z::.Z::.Z::.Z::.Z::.Z::.v (.int .i64 (v4.length:Int))::.v (.int .i64 v6)::.Z::.Z::.Z::.Z::.Z::.Z::.Z::.Z::.Z::.Z::.Z::.Z::.Z::.Z::.Z::.Z::.Z::.Z::.Z::.Z::.Z::.Z::.Z::.Z::.Z::.Z::[],[.rows 2 (v41.map e_ii)]⟩)) ?_ ?_ ?_ ?_
    ·rintro⟨v30,v31⟩ v0 hr
     dsimp only[bK] at hr
     try dsimp only
     refine wa_ T (g:=?_)
     rcases ifs hr with⟨h23,hr⟩|⟨h23,hr⟩
     ·have T:=an h23 T
      refine wa_ T (g:=?_)
      obtain⟨⟨v42,v43⟩,h24,hr⟩:=bs hr
      try dsimp only at hr
      have T:=an (gx e_ii h24) T
      refine wA T (g:=?_)
      obtain⟨⟨v44,v45⟩,h25,hr⟩:=bs hr
      try dsimp only at hr
      have h25m:=jU (f:=e_ii) h25
      have h25l:=jQ h25
      try simp only[List.length_set] at h25l
      have h25a:=kL h25
      have T:=an h25m T
      have T:=an h25l T
      have T:=an h25a T
      refine wA T (g:=?_)
      obtain⟨v46,h26,hr⟩:=bs hr
      apply TD.cal (wn T) rfl aAR (oW h26) rfl rfl rfl
      repeat exact sd T
      refine wa_ T (g:=?_)
      obtain⟨⟨v47,v48⟩,h27,hr⟩:=bs hr
      try dsimp only at hr
      apply TD.cal (wn T) rfl Yu (kH h27) rfl rfl rfl
      repeat exact sd T
      refine wa_ T (g:=?_)
      obtain⟨⟨v49,v50⟩,h28,hr⟩:=bs hr
      try dsimp only at hr
      apply TD.cal (wn T) rfl Ka (gA h28) rfl rfl rfl
      repeat exact sd T
      refine wa_ T (g:=?_)
      apply TD.sr e_ii v30 (v44,v45) (v49,v50) h25a (wn T) rfl rfl rfl rfl rfl ok91 (by rw[cs91];rfl) rfl rfl rfl rfl rfl
      repeat exact sd T
      refine wa_ T (g:=?_)
      cases hr
      refine⟨rfl,?_⟩
      exact wk_ T [some 0] rfl (.rows .nil rfl rfl)
     ·have T:=an h23 T
      refine wa_ T (g:=?_)
      cases hr
      refine⟨rfl,?_⟩
      exact wk_ T [some 0] rfl (.rows .nil rfl rfl)
    ·intro e h;cases h
    ·try dsimp only
     refine wa_ T (g:=?_)
     cases hr
     refine⟨rfl,?_⟩
     exact wk_ T [some 0] rfl (.rows .nil rfl rfl)
    ·try dsimp only
     exact wk_ T [some 0] rfl (.rows .nil rfl rfl)
   ·have T:=an h16 T
    refine wa_ T (g:=?_)
    cases hr
    refine⟨rfl,?_⟩
    exact wk_ T [some 0] rfl (.rows .nil rfl rfl)
  ·intro e h;cases h
  ·try dsimp only
   refine wa_ T (g:=?_)
   cases hr
   refine⟨.inr rfl,_,(ry T),?_⟩
   exact wr [some 0] rfl (.rows .nil rfl rfl)
  ·try dsimp only
   exact wr [some 0] rfl (.rows .nil rfl rfl)
 rfl
end Go.Rex
namespace Go.Rex
open Go.Proofs
open Go Go.Rex Go.RowKit
set_option maxRecDepth 100000
set_option maxHeartbeats 200000
def y69:=an @ag3 <| an @ag91 <| an @by91 <| an @cs91 <| an @tJ <| an @tY <| an @ni79 <| an @ok91 <| an @so79 <| an @st91 <| an @zc91 <| @bP
theorem xF{v1:(List (Int×Int))}{v2:Int}{v3:(List (Int×Int))}{v4:Bool}(hr:jX v1 v2=some (v3,v4)):Spec (lim Try.prog) 42 [.list 2 (v1.map e_ii),.v (.int .i64 v2)] ⟨[.tuple [.lsl 0 0 v3.length,.v (.bool v4)]],[.rows 2 (v3.map e_ii)]⟩:=by
 unfold jX at hr
 have T:=an y69 <| @e_ii.eq_1
 apply Spec.fn Try.func42 rfl
 focus (simp[Try.f42]<;>exact rfl)
 focus
  refine wc_ T (g:=?_)
  apply TX.vt (α:=(Int×Int)) e_ii 6 2 rfl
  repeat exact sd T
  with_reducible apply TX.here
  refine wa_ T (g:=?_)
  obtain⟨v14,h13,hr⟩:=bs hr
  refine TX.loopE (step:=gG v1 v2) (x:=(([]:List (Int×Int)),0)) h13 (fun (v5,v6)=>⟨.Z::.v (.int .i64 v2)::.Z::.Z::.Z::.Z::.lsl 0 0 v5.length::.Z::.Z::.list 2 (v1.map e_ii)::.v (.int .i64 (v1.length:Int))::.v (.int .i64 v6)::.Z::.Z::.Z::.Z::.Z::.Z::.Z::.Z::.Z::.Z::.Z::.Z::.Z::.Z::.Z::.Z::.Z::.Z::.Z::.Z::.Z::.Z::.Z::.Z::.Z::.Z::.Z::.Z::.Z::[],[.rows 2 (v5.map e_ii)]⟩) (fun e=>match e with|(.inl _)=>(.ret,⟨.Z::.Z::.Z::.Z::.v (.slice none 0 0)::.v (.bool false)::.Z::.Z::.Z::.Z::.Z::.Z::.Z::.Z::.Z::.Z::.Z::.Z::.Z::.Z::.Z::.Z::.Z::.Z::.Z::.Z::.Z::.Z::.Z::.Z::.Z::.Z::.Z::.Z::.Z::.Z::.Z::.Z::.Z::.Z::.Z::[],[]⟩)|(.inr v10)=>(.exit 0,⟨.Z::.Z::.Z::.Z::.Z::.Z::.lsl 0 0 v10.length::.Z::.Z::.Z::.Z::.Z::.Z::.Z::.Z::.Z::.Z::.Z::.Z::.Z::.Z::.Z::.Z::.Z::.Z::.Z::.Z::.Z::.Z::.Z::.Z::.Z::.Z::.Z::.Z::.Z::.Z::.Z::.Z::.Z::.Z::[],[.rows 2 (v10.map e_ii)]⟩)) ?_ ?_ ?_ ?_
  ·rintro⟨v5,v6⟩ v0 hr
   dsimp only[gG] at hr
   try dsimp only
   refine wa_ T (g:=?_)
   rcases ifs hr with⟨h7,hr⟩|⟨h7,hr⟩
   ·have T:=an h7 T
    refine wa_ T (g:=?_)
    obtain⟨⟨v11,v12⟩,h8,hr⟩:=bs hr
    try dsimp only at hr
    have h8m:=jU (f:=e_ii) h8
    have h8l:=jQ h8
    try simp only[List.length_set] at h8l
    have h8a:=kL h8
    have T:=an h8m T
    have T:=an h8l T
    have T:=an h8a T
    refine wA T (g:=?_)
    by_cases h9:v2=0
    ·rw[if_pos h9] at hr
     cases hr
    ·rw[if_neg h9] at hr
     have T:=an h9 T
     refine wa_ T (g:=?_)
     rcases ifs hr with⟨h10,hr⟩|⟨h10,hr⟩
     ·have T:=an h10 T
      refine wa_ T (g:=?_)
      cases hr
      refine⟨rfl,?_⟩
      exact wk_ T [] rfl .nil
     ·have T:=an h10 T
      refine wA T (g:=?_)
      rcases ifs hr with⟨h11,hr⟩|⟨h11,hr⟩
      ·have T:=an h11 T
       refine wa_ T (g:=?_)
       cases hr
       refine⟨rfl,?_⟩
       exact wk_ T [] rfl .nil
      ·have T:=an h11 T
       refine wA T (g:=?_)
       apply TD.bm e_ii ([((IntKind.i64.wrap (v11.tdiv v2)),(IntKind.i64.wrap (v12.tdiv v2)))]:List (Int×Int)) (wn T) rfl (by simp only[zz,y69,e_ii,Nat.reduceAdd,Nat.reduceMul,Nat.reduceLeDiff,Nat.reduceEqDiff,tslice,tparts,h7,h8m,h8l,h8a,h9,h10,h11];exact rfl) rfl
       repeat exact sd T
       refine wa_ T (g:=?_)
       obtain⟨v13,h12,hr⟩:=bs hr
       apply TD.ap (f:=e_ii) (xs:=v5) (ys:=([((IntKind.i64.wrap (v11.tdiv v2)),(IntKind.i64.wrap (v12.tdiv v2)))]:List (Int×Int))) (wn T) rfl rfl (by first|rfl|simp only[List.length_set]) rfl rfl so79 ni79 zc91 rfl (by rw[by91];exact h12) (fun _=>⟨rfl,rfl,rfl⟩) rfl
       repeat exact sd T
       refine wa_ T (g:=?_)
       cases hr
       refine⟨rfl,?_⟩
       exact wk_ T [some 0] rfl (.rows .nil rfl rfl)
   ·have T:=an h7 T
    refine wa_ T (g:=?_)
    cases hr
    refine⟨rfl,?_⟩
    exact wk_ T [some 0] rfl (.rows .nil rfl rfl)
  ·intro e h;rcases e with _|e<;>cases h
  ·try dsimp only
   rcases v14 with _|v15
   ·try dsimp only at hr
    try dsimp only
    refine wa_ T (g:=?_)
    cases hr
    refine⟨.inr rfl,_,(ry T),?_⟩
    exact wr [none] rfl (.virt .nil)
   ·try dsimp only at hr
    try dsimp only
    refine wa_ T (g:=?_)
    cases hr
    refine⟨.inr rfl,_,(ry T),?_⟩
    exact wr [some 0] rfl (.rows .nil rfl rfl)
  ·try dsimp only
   exact wr [some 0] rfl (.rows .nil rfl rfl)
 rfl
end Go.Rex
namespace Go.Rex
open Go.Proofs
open Go Go.Rex Go.RowKit
set_option maxRecDepth 100000
set_option maxHeartbeats 1000000
def y70:=an @ag25 <| an @ag32 <| an @ag72 <| an @cs25 <| an @cs64 <| an @cs72 <| an @cs77 <| an @ok25 <| an @ok72 <| an @ok77 <| an @so99 <| an @st72 <| an @zc64 <| an @zc72 <| @zc77
theorem vN{v1:(List (Nat×Nat))}{v2:Int}{v3:(List Int)}{v4:Int}{v5:(List (Nat×Nat))}{v6:Int}(hr:gJ v1 v2 v3 v4=some (v5,v6)):Spec (lim Try.prog) 11 [.list 1 (v1.map e_c),.agg [.v (.int .i64 v2),.list 1 (v3.map e_i)],.v (.int .i64 v4)] ⟨[.tuple [.lsl 0 0 v5.length,.v (.int .i64 v6)]],[.rows 1 (v5.map e_c)]⟩:=by
 unfold gJ at hr
 have T:=an y70 <| an @e_c.eq_1 <| @e_i.eq_1
 apply Spec.fn Try.func11 rfl
 focus (simp[Try.f11]<;>exact rfl)
 focus
  refine wB T (g:=?_)
  obtain⟨v7,h1,hr⟩:=bs hr
  apply TD.cal (wn T) rfl yZ (fP h1) rfl rfl rfl
  repeat exact sd T
  refine wA T (g:=?_)
  obtain⟨⟨v8,v9,v10⟩,h2,hr⟩:=bs hr
  try dsimp only at hr
  apply TD.cal (wn T) rfl Xs (jE h2) rfl rfl rfl
  repeat exact sd T
  refine wA T (g:=?_)
  apply TD.frz 0 rfl rfl
  repeat exact sd T
  refine we_ T (g:=?_)
  obtain⟨v11,h3,hr⟩:=bs hr
  apply TD.cal (wn T) rfl nJ (qD h3) rfl rfl rfl
  repeat exact sd T
  refine wa_ T (g:=?_)
  rcases ifs hr with⟨h4,hr⟩|⟨h4,hr⟩
  ·have T:=an h4 T
   refine wa_ T (g:=?_)
   cases hr
   refine⟨.inr rfl,_,(ry T),?_⟩
   exact wk_ T [none] rfl (.virt .nil)
  ·have T:=an h4 T
   refine wA T (g:=?_)
   obtain⟨v12,h5,hr⟩:=bs hr
   apply TO.cal (wn T) rfl Wi (kG h5) rfl rfl rfl
   repeat exact sd T
   refine wA T (g:=?_)
   obtain⟨v13,h6,hr⟩:=bs hr
   apply TO.cal (wn T) rfl zR (dJ h6) rfl rfl rfl
   repeat exact sd T
   refine wa_ T (g:=?_)
   apply TO.frz 1 rfl rfl
   repeat exact sd T
   refine wa_ T (g:=?_)
   obtain⟨v14,h7,hr⟩:=bs hr
   apply TO.lok (wn T) rfl Vo (rW h7) (vw T) rfl rfl (by simp[oG,cl,e_i,e_c,e_ii])
   repeat exact sd T
   refine wA T (g:=?_)
   obtain⟨v15,h8,hr⟩:=bs hr
   apply TO.cal (wn T) rfl Ai (aW h8) rfl rfl rfl
   repeat exact sd T
   refine wa_ T (g:=?_)
   obtain⟨⟨v16,v17⟩,h9,hr⟩:=bs hr
   try dsimp only at hr
   apply TO.lok (wn T) rfl aBc (xF h9) (vw T) rfl rfl (by simp[oG,cl,e_i,e_c,e_ii])
   repeat exact sd T
   refine wa_ T (g:=?_)
   apply TO.pop1 (wn T) (eB rfl)
   repeat exact sd T
   refine wa_ T (g:=?_)
   rcases ifs hr with⟨h10,hr⟩|⟨h10,hr⟩
   ·have T:=an h10 T
    refine wa_ T (g:=?_)
    obtain⟨⟨v18,v19⟩,h11,hr⟩:=bs hr
    try dsimp only at hr
    apply TO.lok (wn T) rfl Cr (fT h11) (vw T) rfl rfl (by simp[oG,cl,e_i,e_c,e_ii])
    repeat exact sd T
    refine wa_ T (g:=?_)
    cases hr
    refine⟨.inr rfl,_,(ry T),?_⟩
    exact wk_ T [some 5] rfl (.rows .nil rfl rfl)
   ·have T:=an h10 T
    refine wa_ T (g:=?_)
    cases hr
    refine⟨.inr rfl,_,(ry T),?_⟩
    exact wk_ T [none] rfl (.virt .nil)
 rfl
end Go.Rex
namespace Go.Rex
open Go.Proofs
open Go Go.Rex Go.RowKit
set_option maxRecDepth 100000
set_option maxHeartbeats 200000
def y71:=@ex84
theorem wQ{v1:Nat}{v2:Nat}{v3:Nat}{v4:Nat}{v5:Bool}(hr:nR v1 v2 v3 v4=some (v5)):Spec (lim Try.prog) 53 [.v (.complex .f64 v1 v2),.v (.complex .f64 v3 v4)] ⟨[.v (.bool v5)],[]⟩:=by
 unfold nR at hr
 have T:=y71
 apply Spec.fn Try.func53 rfl
 focus (simp[Try.f53]<;>exact rfl)
 focus
  refine wa_ T (g:=?_)
  apply TO.pop1 (wn T) (yR rfl)
  repeat exact sd T
  refine wa_ T (g:=?_)
  obtain⟨v6,h1,hr⟩:=bs hr
  apply TO.fb (wn T) rfl ex84 (by simp only[z1,z3,zl]<;>rfl) h1 rfl
  repeat exact sd T
  refine wa_ T (g:=?_)
  apply TO.pop1 (wn T) (yR rfl)
  repeat exact sd T
  refine wa_ T (g:=?_)
  obtain⟨v7,h2,hr⟩:=bs hr
  apply TO.fb (wn T) rfl ex84 (by simp only[z1,z3,zl]<;>rfl) h2 rfl
  repeat exact sd T
  refine wa_ T (g:=?_)
  rcases ifs hr with⟨h3,hr⟩|⟨h3,hr⟩
  ·have T:=an h3 T
   refine wa_ T (g:=?_)
   apply TO.pop1 (wn T) (yS rfl)
   repeat exact sd T
   refine wa_ T (g:=?_)
   obtain⟨v8,h4,hr⟩:=bs hr
   apply TO.fb (wn T) rfl ex84 (by simp only[z1,z3,zl]<;>rfl) h4 rfl
   repeat exact sd T
   refine wa_ T (g:=?_)
   apply TO.pop1 (wn T) (yS rfl)
   repeat exact sd T
   refine wa_ T (g:=?_)
   obtain⟨v9,h5,hr⟩:=bs hr
   apply TO.fb (wn T) rfl ex84 (by simp only[z1,z3,zl]<;>rfl) h5 rfl
   repeat exact sd T
   refine wa_ T (g:=?_)
   cases hr
   refine⟨.inr rfl,_,(ry T),?_⟩
   exact wk_ T [] rfl .nil
  ·have T:=an h3 T
   refine wa_ T (g:=?_)
   cases hr
   refine⟨.inr rfl,_,(ry T),?_⟩
   exact wk_ T [] rfl .nil
 rfl
def y72:=an @ag60 <| an @cs60 <| an @ok60 <| an @so32 <| an @un60 <| an @un94 <| @bP
theorem nA{v1:(List (Nat×Nat))}{v2:(List (Nat×Nat))}{v3:Bool}(hr:aQ v1 v2=some (v3)):Spec (lim Try.prog) 17 [.list 1 (v1.map e_c),.list 1 (v2.map e_c)] ⟨[.v (.bool v3)],[]⟩:=by
 unfold aQ at hr
 have T:=an y72 <| @e_c.eq_1
 apply Spec.fn Try.func17 rfl
 focus (simp[Try.f17]<;>exact rfl)
 focus
  refine wc_ T (g:=?_)
  rcases ifs hr with⟨h1,hr⟩|⟨h1,hr⟩
  ·have T:=an h1 T
   refine wa_ T (g:=?_)
   cases hr
   refine⟨.inr rfl,_,(ry T),?_⟩
   exact wk_ T [] rfl .nil
  ·have T:=an h1 T
   refine wa_ T (g:=?_)
   obtain⟨v23,h20,hr⟩:=bs hr
   refine TX.loopE (step:=eF v1 v2) (x:=0) h20 (fun v4=>⟨.list 1 (v1.map e_c)::.list 1 (v2.map e_c)::.Z::.Z::.Z::.v (.int .i64 v4)::.Z::.Z::.Z::.Z::.Z::.Z::.Z::.Z::.Z::.Z::.Z::.Z::.Z::.Z::.Z::.Z::.Z::.Z::.Z::.Z::.Z::.Z::.Z::[],[]⟩) (fun e=>match e with|(.inl _)=>(.ret,⟨.Z::.Z::.Z::.Z::.v (.bool false)::.Z::.Z::.Z::.Z::.Z::.Z::.Z::.Z::.Z::.Z::.Z::.Z::.Z::.Z::.Z::.Z::.Z::.Z::.Z::.Z::.Z::.Z::.Z::.Z::[],[]⟩)|(.inr _)=>(.exit 0,⟨.Z::.Z::.Z::.Z::.Z::.Z::.Z::.Z::.Z::.Z::.Z::.Z::.Z::.Z::.Z::.Z::.Z::.Z::.Z::.Z::.Z::.Z::.Z::.Z::.Z::.Z::.Z::.Z::.Z::[],[]⟩)) ?_ ?_ ?_ ?_
   ·rintro v4 v0 hr
    dsimp only[eF] at hr
    try dsimp only
    refine wc_ T (g:=?_)
    rcases ifs hr with⟨h11,hr⟩|⟨h11,hr⟩
    ·have T:=an h11 T
     refine wa_ T (g:=?_)
     obtain⟨⟨v14,v15⟩,h12,hr⟩:=bs hr
     try dsimp only at hr
     have T:=an (gx e_c h12) T
     refine wA T (g:=?_)
     obtain⟨v16,h13,hr⟩:=bs hr
     obtain⟨v17,h14,hr⟩:=bs hr
     apply TD.pop1 (wn T) (Bn un60 un94 rfl h13 h14)
     repeat exact sd T
     refine wa_ T (g:=?_)
     obtain⟨⟨v18,v19⟩,h15,hr⟩:=bs hr
     try dsimp only at hr
     have T:=an (gx e_c h15) T
     refine wA T (g:=?_)
     obtain⟨v20,h16,hr⟩:=bs hr
     obtain⟨v21,h17,hr⟩:=bs hr
     apply TD.pop1 (wn T) (Bn un60 un94 rfl h16 h17)
     repeat exact sd T
     refine wa_ T (g:=?_)
     obtain⟨v22,h18,hr⟩:=bs hr
     apply TD.cal (wn T) rfl aBt (wQ h18) rfl rfl rfl
     repeat exact sd T
     refine wa_ T (g:=?_)
     apply TD.pop1 (wn T) (eB rfl)
     repeat exact sd T
     refine wa_ T (g:=?_)
     rcases ifs hr with⟨h19,hr⟩|⟨h19,hr⟩
     ·have T:=an h19 T
      refine wa_ T (g:=?_)
      cases hr
      refine⟨rfl,?_⟩
      exact wk_ T [] rfl .nil
     ·have T:=an h19 T
      refine wa_ T (g:=?_)
      cases hr
      refine⟨rfl,?_⟩
      exact wk_ T [] rfl .nil
    ·have T:=an h11 T
     refine wa_ T (g:=?_)
     cases hr
     refine⟨rfl,?_⟩
     exact wk_ T [] rfl .nil
   ·intro e h;rcases e with _|e<;>cases h
   ·try dsimp only
    rcases v23 with _|_
    ·try dsimp only at hr
     try dsimp only
     refine wa_ T (g:=?_)
     cases hr
     refine⟨.inr rfl,_,(ry T),?_⟩
     exact wk_ T [] rfl .nil
    ·try dsimp only at hr
     try dsimp only
     refine wa_ T (g:=?_)
     cases hr
     refine⟨.inr rfl,_,(ry T),?_⟩
     exact wk_ T [] rfl .nil
   ·try dsimp only
    exact wk_ T [] rfl .nil
 rfl
end Go.Rex
namespace Go.Rex
open Go.Proofs
open Go Go.Rex Go.RowKit
set_option maxRecDepth 100000
theorem follows:Try.prog.follows .mixedOrders=true:=by decide +kernel
theorem awake_true:AwT Try.prog 5:=Hk follows (k:=1000) (d:=50) (by decide +kernel)
end Go.Rex
namespace Go.Rex
open Go.Proofs
open Go Go.Rex Go.RowKit
set_option maxRecDepth 100000
set_option maxHeartbeats 4000000
def y73:=an @ag25 <| an @ag27 <| an @ag3 <| an @ar48 <| an @cs25 <| an @cs27 <| an @cs3 <| an @cs60 <| an @Xh <| an @Wo <| an @ok25 <| an @ok27 <| an @ok3 <| an @ok60 <| an @so22 <| an @so32 <| @so48
theorem pA{v1:(List (Int×Int))}{v2:Int}{v3:(List Int)}{v4:Int}{v5:Int}{v6:Int}(hr:fM v1 v2 v3 v4 v5 v6=some true){Fz:Nat→Prop}{h:List Blk}{vs:List Value}(hfz:FZ Fz h)(hargs:VLs Fz h noL [.list 2 (v1.map e_ii),.agg [.v (.int .i64 v2),.list 1 (v3.map e_i),.v (.int .i64 v4)],.agg [.v (.int .i64 v5),.v (.int .i64 v6)]] vs)
 {B lo:Nat} {D:Nat→Prop} {m:NMap} {w:World} {args':List Value} (hrel:Rel B lo D m h w) (hlo:lo≤h.length) (hargs':VRs D m vs args'):Calls Try.prog 4 ⟨args'⟩ w (fun e w'=>e = .returned (.bool true)∧Below w.heap.size w w'):=by
 unfold fM at hr
 have T:=an y73 <| an @e_c.eq_1 <| an @e_i.eq_1 <| @e_ii.eq_1
 refine aAi follows awake_true Try.func4 rfl (tm0:=.list 2 (v1.map e_ii)::.agg [.v (.int .i64 v2),.list 1 (v3.map e_i),.v (.int .i64 v4)]::.agg [.v (.int .i64 v5),.v (.int .i64 v6)]::.Z::.Z::.Z::.Z::.Z::.Z::.Z::.Z::.Z::.Z::.Z::.Z::.Z::.Z::.Z::.Z::.Z::.Z::.Z::.Z::.Z::.Z::.Z::.Z::.Z::.Z::.Z::.Z::.Z::.Z::.Z::.Z::.Z::.Z::.Z::.Z::.Z::.Z::.Z::.Z::.Z::.Z::.Z::.Z::.Z::.Z::.Z::.Z::.Z::.Z::.Z::.Z::.Z::.Z::.Z::.Z::.Z::.Z::.Z::.Z::.Z::.Z::.Z::.Z::.Z::.Z::.Z::.Z::.Z::.Z::.Z::.Z::.Z::.Z::.Z::.Z::.Z::.Z::.Z::.Z::.Z::.Z::.Z::.Z::.Z::.Z::.Z::.Z::.Z::.Z::.Z::.Z::.Z::.Z::.Z::.Z::.Z::.Z::.Z::.Z::.Z::.Z::.Z::.Z::.Z::.Z::.Z::.Z::.Z::.Z::.Z::.Z::.Z::.Z::.Z::.Z::.Z::.Z::.Z::.Z::.Z::.Z::.Z::.Z::.Z::.Z::.Z::.Z::.Z::.Z::.Z::.Z::.Z::.Z::.Z::.Z::.Z::.Z::.Z::.Z::.Z::.Z::.Z::.Z::.Z::.Z::.Z::[]) (by simp[Try.f4]<;>exact rfl) ?_ hfz hargs hrel hlo hargs'
 refine wb_ T (g:=?_)
 apply TO.cal (wn T) rfl aB1 Spec.awake rfl rfl rfl
 repeat exact sd T
 refine wa_ T (g:=?_)
 apply TO.pop1 (wn T) (eB rfl)
 repeat exact sd T
 refine wc_ T (g:=?_)
 rcases ifs hr with⟨h1,hr⟩|⟨h1,hr⟩
 ·have T:=an h1 T
  refine wa_ T (g:=?_)
  exact lv T hr
 ·have T:=an h1 T
  refine wc_ T (g:=?_)
  rcases ifs hr with⟨h2,hr⟩|⟨h2,hr⟩
  ·have T:=an h2 T
   refine wa_ T (g:=?_)
   exact lv T hr
  ·have T:=an h2 T
   refine wA T (g:=?_)
   obtain⟨v8,h3,hr⟩:=bs hr
   apply TO.cal (wn T) rfl aB3 (Spec.ov (tH h3) (by decide)) rfl rfl rfl
   repeat exact sd T
   refine wa_ T (g:=?_)
   apply TO.pop1 (wn T) (eB rfl)
   repeat exact sd T
   refine wa_ T (g:=?_)
   rcases ifs hr with⟨h4,hr⟩|⟨h4,hr⟩
   ·have T:=an h4 T
    refine wC T (g:=?_)
    obtain⟨v9,h5,hr⟩:=bs hr
    apply TO.cal (wn T) rfl Yl (Spec.ov (oK h5) (by decide)) rfl rfl rfl
    repeat exact sd T
    refine wa_ T (g:=?_)
    rcases ifs hr with⟨h6,hr⟩|⟨h6,hr⟩
    ·have T:=an h6 T
     refine wa_ T (g:=?_)
     exact lv T hr
    ·repeat (first|(with_reducible first|refine mv ?_|refine m12 rfl ?_|refine TO.nil ?_)|((with_reducible first|apply TO.ia|apply TO.ld);(repeat (focus (show _=_;first|exact k1 rfl|exact k2 rfl|(simp only[zz,y73,e_c,e_i,e_ii,Nat.reduceAdd,Nat.reduceMul,Nat.reduceLeDiff,Nat.reduceEqDiff,aB,z5,Int.reduceToNat,Int.reduceLE,Int.reduceLT,Int.cast_ofNat_Int,tload,bD,bC,List.getElem?_map,h1,h2,h4,h6]<;>exact rfl)|exact rfl)));(with_reducible apply TO.here))|((with_reducible apply TX.region);(focus (simp only[zl]<;>exact rfl));(focus rfl);(try dsimp only))|fail)
     obtain⟨v10,h7,hr⟩:=bs hr
     have T:=an h6 T
     apply TO.cal (wn T) rfl Et (Spec.ov (eT h7) (by decide)) rfl rfl rfl
     repeat exact sd T
     refine wa_ T (g:=?_)
     apply TO.pop1 (wn T) (eB rfl)
     repeat exact sd T
     refine wa_ T (g:=?_)
     rcases ifs hr with⟨h8,hr⟩|⟨h8,hr⟩
     ·repeat (first|(with_reducible first|refine mv ?_|refine m12 rfl ?_|refine TO.nil ?_)|((with_reducible first|apply TO.ia|apply TO.ld);(repeat (focus (show _=_;first|exact k1 rfl|exact k2 rfl|(simp only[zz,y73,e_c,e_i,e_ii,Nat.reduceAdd,Nat.reduceMul,Nat.reduceLeDiff,Nat.reduceEqDiff,aB,z5,Int.reduceToNat,Int.reduceLE,Int.reduceLT,Int.cast_ofNat_Int,tload,bD,bC,List.getElem?_map,h1,h2,h4,h6,h8]<;>exact rfl)|exact rfl)));(with_reducible apply TO.here))|((with_reducible apply TX.region);(focus (simp only[zl]<;>exact rfl));(focus rfl);(try dsimp only))|fail)
      obtain⟨v11,h9,hr⟩:=bs hr
      have T:=an h8 T
      apply TO.cal (wn T) rfl Et (Spec.ov (eT h9) (by decide)) rfl rfl rfl
      repeat exact sd T
      refine wa_ T (g:=?_)
      apply TO.pop1 (wn T) (eB rfl)
      repeat exact sd T
      refine wa_ T (g:=?_)
      rcases ifs hr with⟨h10,hr⟩|⟨h10,hr⟩
      ·have T:=an h10 T
       refine wa_ T (g:=?_)
       obtain⟨⟨v12,v13⟩,h11,hr⟩:=bs hr
       try dsimp only at hr
       apply TO.cal (wn T) rfl aBJ (Spec.ov (tB h11) (by decide)) rfl rfl rfl
       repeat exact sd T
       refine wa_ T (g:=?_)
       apply TO.pop1 (wn T) (eB rfl)
       repeat exact sd T
       refine wa_ T (g:=?_)
       rcases ifs hr with⟨h12,hr⟩|⟨h12,hr⟩
       ·repeat (first|(with_reducible first|refine mv ?_|refine m12 rfl ?_|refine TO.nil ?_)|((with_reducible first|apply TO.ia|apply TO.ld);(repeat (focus (show _=_;first|exact k1 rfl|exact k2 rfl|(simp only[zz,y73,e_c,e_i,e_ii,Nat.reduceAdd,Nat.reduceMul,Nat.reduceLeDiff,Nat.reduceEqDiff,aB,z5,Int.reduceToNat,Int.reduceLE,Int.reduceLT,Int.cast_ofNat_Int,tload,bD,bC,List.getElem?_map,h1,h2,h4,h6,h8,h10,h12]<;>exact rfl)|exact rfl)));(with_reducible apply TO.here))|((with_reducible apply TX.region);(focus (simp only[zl]<;>exact rfl));(focus rfl);(try dsimp only))|((with_reducible apply TX.cond_true);(focus rfl);(focus (first|rfl|(simp only[z1,zn,h1,h2,h4,h6,h8,h10,h12];done))))|((with_reducible apply TX.cond_false);(focus rfl);(focus (first|rfl|(simp only[z1,zn,h1,h2,h4,h6,h8,h10,h12];done))))|fail)
        obtain⟨⟨v14,v15⟩,h13,hr⟩:=bs hr
        try dsimp only at hr
        have T:=an h12 T
        apply TO.cal (wn T) rfl aBi (Spec.ov (zX h13) (by decide)) rfl rfl rfl
        repeat exact sd T
        refine wa_ T (g:=?_)
        obtain⟨v16,h14,hr⟩:=bs hr
        apply TO.lok (wn T) rfl Ps (Spec.ov (lX h14) (by decide)) (vw T) rfl rfl (by simp[oG,cl,e_i,e_c,e_ii])
        repeat exact sd T
        refine wa_ T (g:=?_)
        obtain⟨v17,h15,hr⟩:=bs hr
        apply TO.lok (wn T) rfl Ps (Spec.ov (lX h15) (by decide)) (vw T) rfl rfl (by simp[oG,cl,e_i,e_c,e_ii])
        repeat exact sd T
        refine wa_ T (g:=?_)
        obtain⟨⟨v18,v19⟩,h16,hr⟩:=bs hr
        try dsimp only at hr
        apply TO.lok (wn T) rfl aA2 (Spec.ov (zY h16) (by decide)) (vw T) rfl rfl (by simp[oG,cl,e_i,e_c,e_ii])
        repeat exact sd T
        refine wa_ T (g:=?_)
        obtain⟨⟨v20,v21⟩,h17,hr⟩:=bs hr
        try dsimp only at hr
        apply TO.lok (wn T) rfl aAE (Spec.ov (wR h17) (by decide)) (vw T) rfl rfl (by simp[oG,cl,e_i,e_c,e_ii])
        repeat exact sd T
        refine wa_ T (g:=?_)
        obtain⟨v22,h18,hr⟩:=bs hr
        apply TD.lok (wn T) rfl Ps (Spec.ov (lX h18) (by decide)) (vw T) rfl rfl (by simp[oG,cl,e_i,e_c,e_ii])
        repeat exact sd T
        refine wA T (g:=?_)
        obtain⟨⟨v23,v24⟩,h19,hr⟩:=bs hr
        try dsimp only at hr
        apply TD.cal (wn T) rfl Yn (Spec.ov (sY h19) (by decide)) rfl rfl rfl
        repeat exact sd T
        refine wA T (g:=?_)
        obtain⟨⟨v25,v26⟩,h20,hr⟩:=bs hr
        try dsimp only at hr
        apply TD.lok (wn T) rfl aAL (Spec.ov (xD h20) (by decide)) (vw T) rfl rfl (by simp[oG,cl,e_i,e_c,e_ii])
        repeat exact sd T
        refine wA T (g:=?_)
        obtain⟨⟨v27,v28⟩,h21,hr⟩:=bs hr
        try dsimp only at hr
        apply TD.cal (wn T) rfl Yn (Spec.ov (sY h21) (by decide)) rfl rfl rfl
        repeat exact sd T
        refine wA T (g:=?_)
        obtain⟨⟨v29,v30⟩,h22,hr⟩:=bs hr
        try dsimp only at hr
        apply TD.lok (wn T) rfl aAZ (Spec.ov (vN h22) (by decide)) (vw T) rfl rfl (by simp[oG,cl,e_i,e_c,e_ii])
        repeat exact sd T
        refine wa_ T (g:=?_)
        rcases ifs hr with⟨h23,hr⟩|⟨h23,hr⟩
        ·have T:=an h23 T
         refine wa_ T (g:=?_)
         exact lv T hr
        ·have T:=an h23 T
         refine wa_ T (g:=?_)
         rcases ifs hr with⟨h24,hr⟩|⟨h24,hr⟩
         ·have T:=an h24 T
          refine wa_ T (g:=?_)
          exact lv T hr
         ·have T:=an h24 T
          refine wa_ T (g:=?_)
          rcases ifs hr with⟨h25,hr⟩|⟨h25,hr⟩
          ·have T:=an h25 T
           refine wa_ T (g:=?_)
           exact lv T hr
          ·have T:=an h25 T
           refine wa_ T (g:=?_)
           rcases ifs hr with⟨h26,hr⟩|⟨h26,hr⟩
           ·have T:=an h26 T
            refine wa_ T (g:=?_)
            exact lv T hr
           ·have T:=an h26 T
            refine wa_ T (g:=?_)
            rcases ifs hr with⟨h27,hr⟩|⟨h27,hr⟩
            ·have T:=an h27 T
             refine wa_ T (g:=?_)
             exact lv T hr
            ·have T:=an h27 T
             refine wc_ T (g:=?_)
             rcases ifs hr with⟨h28,hr⟩|⟨h28,hr⟩
             ·have T:=an h28 T
              refine wa_ T (g:=?_)
              exact lv T hr
             ·have T:=an h28 T
              refine wc_ T (g:=?_)
              rcases ifs hr with⟨h29,hr⟩|⟨h29,hr⟩
              ·have T:=an h29 T
               refine wa_ T (g:=?_)
               exact lv T hr
              ·have T:=an h29 T
               refine wc_ T (g:=?_)
               obtain⟨v31,h30,hr⟩:=bs hr
               apply TO.ct e_c h30 (wn T) rfl rfl rfl so32 ok60 cs60
               repeat exact sd T
               refine wa_ T (g:=?_)
               obtain⟨v32,h31,hr⟩:=bs hr
               apply TO.lok (wn T) rfl Uu (Spec.ov (nA h31) (by decide)) (by simp only[view,z1,z3,zl,tml,tmlc,List.length_set,Nat.reduceEqDiff,if_false,wE,uM]<;>rfl) rfl rfl (by simp[oG,cl,e_i,e_c,e_ii])
               repeat exact sd T
               refine wa_ T (g:=?_)
               rcases ifs hr with⟨h32,hr⟩|⟨h32,hr⟩
               ·have T:=an h32 T
                refine wc_ T (g:=?_)
                obtain⟨v33,h33,hr⟩:=bs hr
                apply TO.ct e_c h33 (wn T) rfl rfl rfl so32 ok60 cs60
                repeat exact sd T
                refine wa_ T (g:=?_)
                obtain⟨v34,h34,hr⟩:=bs hr
                apply TO.lok (wn T) rfl Uu (Spec.ov (nA h34) (by decide)) (by simp only[view,z1,z3,zl,tml,tmlc,List.length_set,Nat.reduceEqDiff,if_false,wE,uM]<;>rfl) rfl rfl (by simp[oG,cl,e_i,e_c,e_ii])
                repeat exact sd T
                refine wa_ T (g:=?_)
                exact lv T hr
               ·have T:=an h32 T
                refine wa_ T (g:=?_)
                exact lv T hr
       ·have T:=an h12 T
        refine wa_ T (g:=?_)
        exact lv T hr
      ·have T:=an h10 T
       refine wa_ T (g:=?_)
       exact lv T hr
     ·have T:=an h8 T
      refine wa_ T (g:=?_)
      exact lv T hr
   ·have T:=an h4 T
    refine wa_ T (g:=?_)
    exact lv T hr
end Go.Rex
