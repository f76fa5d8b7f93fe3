/- Proofs that the program's functions do what these plain functions say. -/
import Derived.Test.YtbodidihhbejmaaGreatGB
import Derived.Test.YtbodidihhbejmaaGreatS
set_option linter.unusedSimpArgs false
set_option linter.unusedVariables false
set_option linter.defProp false
namespace Go.Rex
open Go.Proofs
open Go Go.Rex Go.RowKit
set_option maxRecDepth 100000
set_option maxHeartbeats 200000
def y1:=@so23
theorem zT{v1:(List (Nat×Nat))}{v2:Bool}(hr:hU v1=some (v2)):Spec (lim Tryz.prog) 7 [.list 2 (v1.map e_ff)] ⟨[.v (.bool v2)],[]⟩:=by
 unfold hU at hr
 have T:=an y1 <| @e_ff.eq_1
 apply Spec.fn Tryz.func7 rfl
 focus (simp[Tryz.f7]<;>exact rfl)
 focus
  refine wc_ T (g:=?_)
  rcases ifs hr with⟨h1,hr⟩|⟨h1,hr⟩
  ·have T:=an h1 T
   refine wa_ T (g:=?_)
   cases hr
   refine⟨.inr rfl,_,(ry T),?_⟩
   exact wk_ T [] rfl .nil
  ·have T:=an h1 T
   refine wc_ T (g:=?_)
   rcases ifs hr with⟨h2,hr⟩|⟨h2,hr⟩
   ·have T:=an h2 T
    refine wc_ T (g:=?_)
    cases hr
    refine⟨.inr rfl,_,(ry T),?_⟩
    exact wk_ T [] rfl .nil
   ·have T:=an h2 T
    refine wa_ T (g:=?_)
    cases hr
    refine⟨.inr rfl,_,(ry T),?_⟩
    exact wk_ T [] rfl .nil
 rfl
def y2:=an @ag44 <| an @ar45 <| an @by84 <| an @cs44 <| an @cs45 <| an @cs84 <| an @ni31 <| an @ok44 <| an @ok45 <| an @so23 <| an @so31 <| an @so45 <| an @zc84 <| @bM
theorem pY{v1:(List (Nat×Nat))}{v2:(List (Nat×Nat))}(hr:aX v1=some (v2)):Spec (lim Tryz.prog) 9 [.list 2 (v1.map e_ff)] ⟨[.lsl 0 0 v2.length],[.rows 1 (v2.map e_c)]⟩:=by
 unfold aX at hr
 have T:=an y2 <| an @e_c.eq_1 <| @e_ff.eq_1
 apply Spec.fn Tryz.func9 rfl
 focus (simp[Tryz.f9]<;>exact rfl)
 focus
  refine wa_ T (g:=?_)
  apply TX.vt (α:=(Nat×Nat)) e_c 3 1 rfl
  repeat exact sd T
  with_reducible apply TX.here
  refine wa_ T (g:=?_)
  obtain⟨v12,h7,hr⟩:=bs hr
  refine TX.loopE (step:=hZ v1) (x:=(([]:List (Nat×Nat)),0)) h7 (fun (v3,v4)=>⟨.list 2 (v1.map e_ff)::.Z::.Z::.lsl 0 0 v3.length::.v (.int .i64 v4)::.Z::.Z::.Z::.Z::.Z::.Z::.Z::.Z::.Z::.Z::.Z::.Z::.Z::.Z::.Z::.Z::.Z::.Z::.Z::.Z::.Z::[],[.rows 1 (v3.map e_c)]⟩) (fun v8=>(.exit 0,⟨.Z::.Z::.Z::.lsl 0 0 v8.length::.Z::.Z::.Z::.Z::.Z::.Z::.Z::.Z::.Z::.Z::.Z::.Z::.Z::.Z::.Z::.Z::.Z::.Z::.Z::.Z::.Z::.Z::[],[.rows 1 (v8.map e_c)]⟩)) ?_ ?_ ?_ ?_
  ·rintro⟨v3,v4⟩ v0 hr
   dsimp only[hZ] at hr
   try dsimp only
   refine wc_ T (g:=?_)
   rcases ifs hr with⟨h4,hr⟩|⟨h4,hr⟩
   ·have T:=an h4 T
    refine wa_ T (g:=?_)
    obtain⟨⟨v9,v10⟩,h5,hr⟩:=bs hr
    try dsimp only at hr
    have h5m:=bK (f:=e_ff) h5
    have h5l:=bZ h5
    try simp only[List.length_set] at h5l
    have h5a:=cB h5
    repeat (first|(with_reducible first|refine mv ?_|refine m12 rfl ?_|refine TD.nil ?_)|((with_reducible first|apply TD.ia|apply TD.ia|apply TD.ld|apply TD.mv);(repeat (focus (show _=_;first|exact k1 rfl|exact k2 rfl|(simp only[zz,y2,e_c,e_ff,Nat.reduceAdd,Nat.reduceMul,Nat.reduceLeDiff,Nat.reduceEqDiff,aA,Nat.zero_add,z5,Int.reduceToNat,Int.reduceLE,Int.reduceLT,Int.cast_ofNat_Int,tload,aV,aU,List.getElem?_map,h4,h5m,h5l,h5a]<;>exact rfl)|exact rfl)));(with_reducible refine TD.here ?_))|((with_reducible apply TX.drawn);(focus decide +kernel);(focus (simp only[zl]<;>exact rfl));(focus exact rfl);(try dsimp only))|fail)
    have T:=an h5m T
    have T:=an h5l T
    have T:=an h5a T
    apply TD.pop1 (wn T) (rL rfl rfl)
    repeat exact sd T
    refine wa_ T (g:=?_)
    apply TD.bm e_c ([(v9,v10)]:List (Nat×Nat)) (wn T) rfl (by simp only[zz,y2,e_c,e_ff,Nat.reduceAdd,Nat.reduceMul,Nat.reduceLeDiff,Nat.reduceEqDiff,tslice,tparts,h4,h5m,h5l,h5a];exact rfl) rfl
    repeat exact sd T
    refine wa_ T (g:=?_)
    obtain⟨v11,h6,hr⟩:=bs hr
    apply TD.ap (f:=e_c) (xs:=v3) (ys:=([(v9,v10)]:List (Nat×Nat))) (wn T) rfl rfl (by first|rfl|simp only[List.length_set]) rfl rfl so31 ni31 zc84 rfl (by rw[by84];exact h6) (fun _=>⟨rfl,rfl,rfl⟩) rfl
    repeat exact sd T
    refine wa_ T (g:=?_)
    cases hr
    refine⟨rfl,?_⟩
    exact wk_ T [some 0] rfl (.rows .nil rfl rfl)
   ·have T:=an h4 T
    refine wa_ T (g:=?_)
    cases hr
    refine⟨rfl,?_⟩
    exact wk_ T [some 0] rfl (.rows .nil rfl rfl)
  ·intro e h;cases h
  ·try dsimp only
   refine wa_ T (g:=?_)
   cases hr
   refine⟨.inr rfl,_,(ry T),?_⟩
   exact wr [some 0] rfl (.rows .nil rfl rfl)
  ·try dsimp only
   exact wr [some 0] rfl (.rows .nil rfl rfl)
 rfl
def y3:=an @by3 <| an @cs3 <| an @ni24 <| an @so24 <| @zc3
theorem tK{v1:(List Int)}{v2:(List Int)}(hr:jE v1=some (v2)):Spec (lim Tryz.prog) 44 [.list 1 (v1.map e_i)] ⟨[.lsl 0 0 v2.length],[.rows 1 (v2.map e_i)]⟩:=by
 unfold jE at hr
 have T:=an y3 <| @e_i.eq_1
 apply Spec.fn Tryz.func44 rfl
 focus (simp[Tryz.f44]<;>exact rfl)
 focus
  refine wa_ T (g:=?_)
  apply TO.bl e_i ([]:List Int) (wn T) rfl (by simp only[zz,y3,e_i,Nat.reduceAdd,Nat.reduceMul,Nat.reduceLeDiff,Nat.reduceEqDiff,tslice,tparts];exact rfl) rfl rfl
  repeat exact sd T
  refine wa_ T (g:=?_)
  obtain⟨v3,h1,hr⟩:=bs hr
  apply TO.ap (f:=e_i) (xs:=([]:List Int)) (ys:=v1) (wn T) rfl rfl (by first|rfl|simp only[List.length_set]) rfl rfl so24 ni24 zc3 rfl (by rw[by3];exact h1) (fun _=>⟨rfl,rfl,rfl⟩)
  repeat exact sd T
  refine wa_ T (g:=?_)
  cases hr
  refine⟨.inr rfl,_,(ry T),?_⟩
  exact wr [some 0] rfl (.rows .nil rfl rfl)
 rfl
def y4:=an @ag24 <| an @ag26 <| an @ag3 <| an @cs26 <| an @rE <| an @xE <| an @ok26 <| an @st26 <| @zc26
theorem yV{v1:Int}{v2:(List Int)}{v3:Int}{v4:(List Int)}(hr:jZ v1 v2=some (v3,v4)):Spec (lim Tryz.prog) 10 [.agg [.v (.int .i64 v1),.list 1 (v2.map e_i)]] ⟨[.agg [.v (.int .i64 v3),.lsl 0 0 v4.length]],[.rows 1 (v4.map e_i)]⟩:=by
 unfold jZ at hr
 have T:=an y4 <| @e_i.eq_1
 apply Spec.fn Tryz.func10 rfl
 focus (simp[Tryz.f10]<;>exact rfl)
 focus
  refine wB T (g:=?_)
  obtain⟨v5,h1,hr⟩:=bs hr
  apply TD.cal (wn T) rfl Vb (tK h1) rfl rfl rfl
  repeat exact sd T
  refine wa_ T (g:=?_)
  cases hr
  refine⟨.inr rfl,_,(ry T),?_⟩
  exact wr [some 1] rfl (.rows .nil rfl rfl)
 rfl
theorem vH{v1:(List (Nat×Nat))}{v2:(List (Nat×Nat))}(hr:cT v1=some (v2)):Spec (lim Tryz.prog) 31 [.list 1 (v1.map e_c)] ⟨[.func 79 [] [.fptr true [.list 1 (v2.map e_c)] 0]],[]⟩:=by
 unfold cT at hr
 have T:=@e_c.eq_1
 apply Spec.fn Tryz.func31 rfl
 focus (simp[Tryz.f31]<;>exact rfl)
 focus
  refine wb_ T (g:=?_)
  cases hr
  refine⟨.inr rfl,_,(ry T),?_⟩
  exact wr [] rfl .nil
 rfl
theorem mE{v1:Int}{v2:(List Int)}{v3:Int}{v4:Int}{v5:Int}{v6:(List Int)}(hr:bB v1 v2 v3=some (v4,v5,v6)):Spec (lim Tryz.prog) 33 [.agg [.v (.int .i64 v1),.list 1 (v2.map e_i)],.v (.int .i64 v3)] ⟨[.func 84 [] [.fptr true [.v (.int .i64 v4)] 0,.fptr true [.v (.int .i64 v5),.list 1 (v6.map e_i)] 0]],[]⟩:=by
 unfold bB at hr
 have T:=@e_i.eq_1
 apply Spec.fn Tryz.func33 rfl
 focus (simp[Tryz.f33]<;>exact rfl)
 focus
  refine wb_ T (g:=?_)
  cases hr
  refine⟨.inr rfl,_,(ry T),?_⟩
  exact wr [] rfl .nil
 rfl
theorem aF{v1:Bool}{v2:Int}{v3:Bool}{v4:Int}(hr:aC v1 v2=some (v3,v4)):Spec (lim Tryz.prog) 36 [.v (.bool v1),.v (.int .i64 v2)] ⟨[.func 85 [] [.fptr true [.v (.bool v3)] 0,.fptr true [.v (.int .i64 v4)] 0]],[]⟩:=by
 unfold aC at hr
 have T:=trivial
 apply Spec.fn Tryz.func36 rfl
 focus (simp[Tryz.f36]<;>exact rfl)
 focus
  refine wb_ T (g:=?_)
  cases hr
  refine⟨.inr rfl,_,(ry T),?_⟩
  exact wr [] rfl .nil
 rfl
theorem qX{v1:Int}{v2:(List (Nat×Nat))}{v3:Int}{v4:(List (Nat×Nat))}(hr:jT v1 v2=some (v3,v4)):Spec (lim Tryz.prog) 80 [.v (.int .i64 v1),.func 81 [] [.fptr true [.list 1 (v2.map e_c)] 0]] ⟨[.func 112 [] [.fptr true [.v (.int .i64 v3)] 0,.fptr true [.func 81 [] [.fptr true [.list 1 (v4.map e_c)] 0]] 0]],[]⟩:=by
 unfold jT at hr
 have T:=@e_c.eq_1
 apply Spec.fn Tryz.func80 rfl
 focus (simp[Tryz.f80]<;>exact rfl)
 focus
  refine wb_ T (g:=?_)
  cases hr
  refine⟨.inr rfl,_,(ry T),?_⟩
  exact wr [] rfl .nil
 rfl
def y5:=an @ag32 <| @ag4
theorem aH{v1:Bool}{v2:Int}{v3:Int}(hr:aB v1 v2=some (v3)):Spec (lim Tryz.prog) 85 [.fptr true [.v (.bool v1)] 0,.fptr true [.v (.int .i64 v2)] 0] ⟨[.v (.int .i64 v3)],[]⟩:=by
 unfold aB at hr
 have T:=y5
 apply Spec.fn Tryz.func85 rfl
 focus (simp[Tryz.f85]<;>exact rfl)
 focus
  refine wA T (g:=?_)
  rcases ifs hr with⟨h1,hr⟩|⟨h1,hr⟩
  ·have T:=an h1 T
   refine wA T (g:=?_)
   cases hr
   refine⟨.inr rfl,_,(ry T),?_⟩
   exact wk_ T [] rfl .nil
  ·have T:=an h1 T
   refine wa_ T (g:=?_)
   cases hr
   refine⟨.inr rfl,_,(ry T),?_⟩
   exact wk_ T [] rfl .nil
 rfl
def y6:=an @Sc <| @ex130
theorem yW{v1:Nat}{v2:Nat}(hr:jV v1=some (v2)):Spec (lim Tryz.prog) 126 [.v (.float .f64 v1)] ⟨[.v (.float .f64 v2)],[]⟩:=by
 unfold jV at hr
 have T:=y6
 apply Spec.fn Tryz.func126 rfl
 focus (simp[Tryz.f126]<;>exact rfl)
 focus
  refine wa_ T (g:=?_)
  obtain⟨v3,h1,hr⟩:=bs hr
  apply TO.tr (wn T) rfl ex130 Sc (by simp only[z1,z3,zl]<;>rfl) h1
  repeat exact sd T
  refine wa_ T (g:=?_)
  cases hr
  refine⟨.inr rfl,_,(ry T),?_⟩
  exact wr [] rfl .nil
 rfl
def y7:=an @ex134 <| @ex94
theorem Cb{v1:Nat}{v2:Nat}(hr:uT v1=some (v2)):Spec (lim Tryz.prog) 132 [.v (.float .f64 v1)] ⟨[.v (.float .f64 v2)],[]⟩:=by
 unfold uT at hr
 have T:=y7
 apply Spec.fn Tryz.func132 rfl
 focus (simp[Tryz.f132]<;>exact rfl)
 focus
  refine wa_ T (g:=?_)
  obtain⟨v3,h1,hr⟩:=bs hr
  apply TO.fb (wn T) rfl ex94 (by simp only[z1,z3,zl]<;>rfl) h1 rfl
  repeat exact sd T
  refine wa_ T (g:=?_)
  apply TO.pop1 (wn T) (rH rfl rfl (by decide))
  repeat exact sd T
  refine wa_ T (g:=?_)
  apply TO.ex (wn T) rfl ex134 (by simp only[z1,z3,zl];exact rfl) rfl rfl (rfl) rfl rfl rfl
  repeat exact sd T
  refine wa_ T (g:=?_)
  cases hr
  refine⟨.inr rfl,_,(ry T),?_⟩
  exact wr [] rfl .nil
 rfl
theorem yU{v1:Nat}{v2:Int}{v3:Bool}(hr:lB v1 v2=some (v3)):Spec (lim Tryz.prog) 127 [.v (.float .f64 v1),.v (.int .i64 v2)] ⟨[.v (.bool v3)],[]⟩:=by
 unfold lB at hr
 have T:=trivial
 apply Spec.fn Tryz.func127 rfl
 focus (simp[Tryz.f127]<;>exact rfl)
 focus
  refine wa_ T (g:=?_)
  rcases ifs hr with⟨h1,hr⟩|⟨h1,hr⟩
  ·have T:=an h1 T
   refine wa_ T (g:=?_)
   obtain⟨v4,h2,hr⟩:=bs hr
   apply TO.cal (wn T) rfl Ue (Cb h2) rfl rfl rfl
   repeat exact sd T
   refine wa_ T (g:=?_)
   apply TO.pop1 (wn T) (fB rfl rfl (by decide))
   repeat exact sd T
   refine wa_ T (g:=?_)
   cases hr
   refine⟨.inr rfl,_,(ry T),?_⟩
   exact wk_ T [] rfl .nil
  ·have T:=an h1 T
   refine wa_ T (g:=?_)
   rcases ifs hr with⟨h3,hr⟩|⟨h3,hr⟩
   ·have T:=an h3 T
    refine wa_ T (g:=?_)
    apply TO.pop1 (wn T) (Gk rfl)
    repeat exact sd T
    refine wa_ T (g:=?_)
    apply TO.pop1 (wn T) (fB rfl rfl (by decide))
    repeat exact sd T
    refine wa_ T (g:=?_)
    cases hr
    refine⟨.inr rfl,_,(ry T),?_⟩
    exact wk_ T [] rfl .nil
   ·have T:=an h3 T
    refine wa_ T (g:=?_)
    apply TO.pop1 (wn T) (fB rfl rfl (by decide))
    repeat exact sd T
    refine wa_ T (g:=?_)
    cases hr
    refine⟨.inr rfl,_,(ry T),?_⟩
    exact wk_ T [] rfl .nil
 rfl
def y8:=an @un44 <| @un95
theorem nE{v1:Nat}{v2:Bool}(hr:fZ v1=some (v2)):Spec (lim Tryz.prog) 113 [.v (.float .f32 v1)] ⟨[.v (.bool v2)],[]⟩:=by
 unfold fZ at hr
 have T:=y8
 apply Spec.fn Tryz.func113 rfl
 focus (simp[Tryz.f113]<;>exact rfl)
 focus
  refine wa_ T (g:=?_)
  obtain⟨v3,h1,hr⟩:=bs hr
  apply TO.pop1 (wn T) (mH un44 un95 rfl h1)
  repeat exact sd T
  refine wa_ T (g:=?_)
  obtain⟨v4,h2,hr⟩:=bs hr
  apply TO.cal (wn T) rfl Ti (yW h2) rfl rfl rfl
  repeat exact sd T
  refine wa_ T (g:=?_)
  apply TO.pop1 (wn T) (fB rfl rfl (by decide))
  repeat exact sd T
  refine wa_ T (g:=?_)
  rcases ifs hr with⟨h3,hr⟩|⟨h3,hr⟩
  ·have T:=an h3 T
   refine wa_ T (g:=?_)
   obtain⟨v5,h4,hr⟩:=bs hr
   apply TO.cal (wn T) rfl Tr (yU h4) rfl rfl rfl
   repeat exact sd T
   refine wa_ T (g:=?_)
   apply TO.pop1 (wn T) (dF rfl)
   repeat exact sd T
   refine wa_ T (g:=?_)
   cases hr
   refine⟨.inr rfl,_,(ry T),?_⟩
   exact wk_ T [] rfl .nil
  ·have T:=an h3 T
   refine wa_ T (g:=?_)
   cases hr
   refine⟨.inr rfl,_,(ry T),?_⟩
   exact wk_ T [] rfl .nil
 rfl
theorem dN{v1:Nat}{v2:Nat}{v3:Bool}(hr:aT v1 v2=some (v3)):Spec (lim Tryz.prog) 114 [.v (.float .f32 v1),.v (.float .f32 v2)] ⟨[.v (.bool v3)],[]⟩:=by
 unfold aT at hr
 have T:=trivial
 apply Spec.fn Tryz.func114 rfl
 focus (simp[Tryz.f114]<;>exact rfl)
 focus
  refine wa_ T (g:=?_)
  apply TO.pop1 (wn T) (Gk rfl)
  repeat exact sd T
  refine wa_ T (g:=?_)
  apply TO.pop1 (wn T) (fB rfl rfl (by decide))
  repeat exact sd T
  refine wa_ T (g:=?_)
  rcases ifs hr with⟨h1,hr⟩|⟨h1,hr⟩
  ·have T:=an h1 T
   refine wa_ T (g:=?_)
   apply TO.pop1 (wn T) (fB rfl rfl (by decide))
   repeat exact sd T
   refine wa_ T (g:=?_)
   cases hr
   refine⟨.inr rfl,_,(ry T),?_⟩
   exact wk_ T [] rfl .nil
  ·have T:=an h1 T
   refine wa_ T (g:=?_)
   cases hr
   refine⟨.inr rfl,_,(ry T),?_⟩
   exact wk_ T [] rfl .nil
 rfl
def y9:=an @ag70 <| an @cs70 <| an @ok70 <| an @so114 <| an @bM <| @nD
theorem bH{v1:Bool}{v2:Int}{v3:Bool}{v4:Int}{v5:Int}(hr:aL v1 v2 v3 v4=some (v5)):Spec (lim Tryz.prog) 30 [.list 1 [[.func 85 [] [.fptr true [.v (.bool v1)] 0,.fptr true [.v (.int .i64 v2)] 0]],[.func 85 [] [.fptr true [.v (.bool v3)] 0,.fptr true [.v (.int .i64 v4)] 0]]]] ⟨[.v (.int .i64 v5)],[]⟩:=by
 unfold aL at hr
 have T:=y9
 apply Spec.fn Tryz.func30 rfl
 focus (simp[Tryz.f30]<;>exact rfl)
 focus
  refine wc_ T (g:=?_)
  refine TX.unroll ?_
  repeat (first|(with_reducible first|refine mv ?_|refine m12 rfl ?_|refine TO.nil ?_)|((with_reducible first|apply TO.bin|apply TO.ia|apply TO.ld|apply TO.asg|apply TO.mv);(repeat (focus (show _=_;first|exact k1 rfl|exact k2 rfl|(simp only[zz,y9,Nat.reduceAdd,Nat.reduceMul,Nat.reduceLeDiff,Nat.reduceEqDiff,aA,z5,Int.reduceToNat,Int.reduceLE,Int.reduceLT,Int.cast_ofNat_Int,tload,aV,aU,List.getElem?_map]<;>exact rfl)|exact rfl)));(with_reducible apply TO.here))|((with_reducible apply TX.region);(focus (simp only[zl]<;>exact rfl));(focus rfl);(try dsimp only))|((with_reducible apply TX.cond_true);(focus rfl);(focus (first|rfl|(simp only[z1,zn];done))))|((with_reducible apply TX.cond_false);(focus rfl);(focus (first|rfl|(simp only[z1,zn];done))))|fail)
  obtain⟨v6,h1,hr⟩:=bs hr
  apply TO.cal (wn T) rfl nJ (aH h1) rfl rfl rfl
  repeat exact sd T
  refine wa_ T (g:=?_)
  rcases ifs hr with⟨h2,hr⟩|⟨h2,hr⟩
  ·have T:=an h2 T
   refine wa_ T (g:=?_)
   cases hr
   refine⟨.inr rfl,_,(ry T),?_⟩
   exact wk_ T [] rfl .nil
  ·have T:=an h2 T
   refine wa_ T (g:=?_)
   refine TX.unroll ?_
   repeat (first|(with_reducible first|refine mv ?_|refine m12 rfl ?_|refine TO.nil ?_)|((with_reducible first|apply TO.bin|apply TO.ia|apply TO.ld|apply TO.asg|apply TO.mv);(repeat (focus (show _=_;first|exact k1 rfl|exact k2 rfl|(simp only[zz,y9,Nat.reduceAdd,Nat.reduceMul,Nat.reduceLeDiff,Nat.reduceEqDiff,aA,z5,Int.reduceToNat,Int.reduceLE,Int.reduceLT,Int.cast_ofNat_Int,tload,aV,aU,List.getElem?_map,h2]<;>exact rfl)|exact rfl)));(with_reducible apply TO.here))|((with_reducible apply TX.region);(focus (simp only[zl]<;>exact rfl));(focus rfl);(try dsimp only))|((with_reducible apply TX.cond_true);(focus rfl);(focus (first|rfl|(simp only[z1,zn,h2];done))))|((with_reducible apply TX.cond_false);(focus rfl);(focus (first|rfl|(simp only[z1,zn,h2];done))))|fail)
   obtain⟨v7,h3,hr⟩:=bs hr
   apply TO.cal (wn T) rfl nJ (aH h3) rfl rfl rfl
   repeat exact sd T
   refine wa_ T (g:=?_)
   rcases ifs hr with⟨h4,hr⟩|⟨h4,hr⟩
   ·have T:=an h4 T
    refine wa_ T (g:=?_)
    cases hr
    refine⟨.inr rfl,_,(ry T),?_⟩
    exact wk_ T [] rfl .nil
   ·have T:=an h4 T
    refine wa_ T (g:=?_)
    refine TX.unroll ?_
    refine wa_ T (g:=?_)
    cases hr
    refine⟨.inr rfl,_,(ry T),?_⟩
    exact wk_ T [] rfl .nil
 rfl
end Go.Rex
namespace Go.Rex
open Go.Proofs
open Go Go.Rex Go.RowKit
set_option maxRecDepth 100000
set_option maxHeartbeats 1000000
def y10:=an @cs70 <| an @so114 <| @zc70
theorem tX{v1:Nat}{v2:Nat}{v3:Int}(hr:jH v1 v2=some (v3)):Spec (lim Tryz.prog) 82 [.v (.complex .f32 v1 v2)] ⟨[.v (.int .i64 v3)],[]⟩:=by
 unfold jH at hr
 have T:=y10
 apply Spec.fn Tryz.func82 rfl
 focus (simp[Tryz.f82]<;>exact rfl)
 focus
  refine wa_ T (g:=?_)
  apply TO.pop1 (wn T) (oS rfl)
  repeat exact sd T
  refine wa_ T (g:=?_)
  apply TO.pop1 (wn T) (oX rfl)
  repeat exact sd T
  refine wa_ T (g:=?_)
  obtain⟨v4,h1,hr⟩:=bs hr
  apply TO.cal (wn T) rfl Lr (nE h1) rfl rfl rfl
  repeat exact sd T
  refine wa_ T (g:=?_)
  apply TO.pop1 (wn T) (dF rfl)
  repeat exact sd T
  refine wa_ T (g:=?_)
  rcases ifs hr with⟨h2,hr⟩|⟨h2,hr⟩
  ·have T:=an h2 T
   refine wa_ T (g:=?_)
   obtain⟨v5,h3,hr⟩:=bs hr
   apply TO.cal (wn T) rfl Lr (nE h3) rfl rfl rfl
   repeat exact sd T
   refine wa_ T (g:=?_)
   apply TO.pop1 (wn T) (dF rfl)
   repeat exact sd T
   refine wa_ T (g:=?_)
   obtain⟨⟨v6,v7⟩,h4,hr⟩:=bs hr
   try dsimp only at hr
   apply TO.cal (wn T) rfl iF (aF h4) rfl rfl rfl
   repeat exact sd T
   refine wa_ T (g:=?_)
   obtain⟨v8,h5,hr⟩:=bs hr
   apply TO.cal (wn T) rfl zE (dN h5) rfl rfl rfl
   repeat exact sd T
   refine wa_ T (g:=?_)
   apply TO.pop1 (wn T) (dF rfl)
   repeat exact sd T
   refine wa_ T (g:=?_)
   rcases ifs hr with⟨h6,hr⟩|⟨h6,hr⟩
   ·have T:=an h6 T
    refine wa_ T (g:=?_)
    obtain⟨v9,h7,hr⟩:=bs hr
    apply TO.cal (wn T) rfl zE (dN h7) rfl rfl rfl
    repeat exact sd T
    refine wa_ T (g:=?_)
    apply TO.pop1 (wn T) (dF rfl)
    repeat exact sd T
    refine wa_ T (g:=?_)
    obtain⟨⟨v10,v11⟩,h8,hr⟩:=bs hr
    try dsimp only at hr
    apply TO.cal (wn T) rfl iF (aF h8) rfl rfl rfl
    repeat exact sd T
    refine we_ T (g:=?_)
    obtain⟨v12,h9,hr⟩:=bs hr
    apply TO.cal (wn T) rfl pW (bH h9) rfl rfl rfl
    repeat exact sd T
    refine wa_ T (g:=?_)
    cases hr
    refine⟨.inr rfl,_,(ry T),?_⟩
    exact wk_ T [] rfl .nil
   ·have T:=an h6 T
    refine wa_ T (g:=?_)
    obtain⟨⟨v13,v14⟩,h10,hr⟩:=bs hr
    try dsimp only at hr
    apply TO.cal (wn T) rfl iF (aF h10) rfl rfl rfl
    repeat exact sd T
    refine we_ T (g:=?_)
    obtain⟨v15,h11,hr⟩:=bs hr
    apply TO.cal (wn T) rfl pW (bH h11) rfl rfl rfl
    repeat exact sd T
    refine wa_ T (g:=?_)
    cases hr
    refine⟨.inr rfl,_,(ry T),?_⟩
    exact wk_ T [] rfl .nil
  ·have T:=an h2 T
   refine wa_ T (g:=?_)
   obtain⟨⟨v16,v17⟩,h12,hr⟩:=bs hr
   try dsimp only at hr
   apply TO.cal (wn T) rfl iF (aF h12) rfl rfl rfl
   repeat exact sd T
   refine wa_ T (g:=?_)
   obtain⟨v18,h13,hr⟩:=bs hr
   apply TO.cal (wn T) rfl zE (dN h13) rfl rfl rfl
   repeat exact sd T
   refine wa_ T (g:=?_)
   apply TO.pop1 (wn T) (dF rfl)
   repeat exact sd T
   refine wa_ T (g:=?_)
   rcases ifs hr with⟨h14,hr⟩|⟨h14,hr⟩
   ·have T:=an h14 T
    refine wa_ T (g:=?_)
    obtain⟨v19,h15,hr⟩:=bs hr
    apply TO.cal (wn T) rfl zE (dN h15) rfl rfl rfl
    repeat exact sd T
    refine wa_ T (g:=?_)
    apply TO.pop1 (wn T) (dF rfl)
    repeat exact sd T
    refine wa_ T (g:=?_)
    obtain⟨⟨v20,v21⟩,h16,hr⟩:=bs hr
    try dsimp only at hr
    apply TO.cal (wn T) rfl iF (aF h16) rfl rfl rfl
    repeat exact sd T
    refine we_ T (g:=?_)
    obtain⟨v22,h17,hr⟩:=bs hr
    apply TO.cal (wn T) rfl pW (bH h17) rfl rfl rfl
    repeat exact sd T
    refine wa_ T (g:=?_)
    cases hr
    refine⟨.inr rfl,_,(ry T),?_⟩
    exact wk_ T [] rfl .nil
   ·have T:=an h14 T
    refine wa_ T (g:=?_)
    obtain⟨⟨v23,v24⟩,h18,hr⟩:=bs hr
    try dsimp only at hr
    apply TO.cal (wn T) rfl iF (aF h18) rfl rfl rfl
    repeat exact sd T
    refine we_ T (g:=?_)
    obtain⟨v25,h19,hr⟩:=bs hr
    apply TO.cal (wn T) rfl pW (bH h19) rfl rfl rfl
    repeat exact sd T
    refine wa_ T (g:=?_)
    cases hr
    refine⟨.inr rfl,_,(ry T),?_⟩
    exact wk_ T [] rfl .nil
 rfl
end Go.Rex
namespace Go.Rex
open Go.Proofs
open Go Go.Rex Go.RowKit
set_option maxRecDepth 100000
set_option maxHeartbeats 200000
def y11:=an @ag31 <| an @ag84 <| an @cs84 <| an @ok84 <| @so31
theorem mF{v1:Int}{v2:(List (Nat×Nat))}{v3:Int}(hr:eK v1 v2=some (v3)):Spec (lim Tryz.prog) 81 [.v (.int .i64 v1),.fptr true [.list 1 (v2.map e_c)] 0] ⟨[.v (.int .i64 v3)],[]⟩:=by
 unfold eK at hr
 have T:=an y11 <| @e_c.eq_1
 apply Spec.fn Tryz.func81 rfl
 focus (simp[Tryz.f81]<;>exact rfl)
 focus
  refine wA T (g:=?_)
  obtain⟨⟨v4,v5⟩,h1,hr⟩:=bs hr
  try dsimp only at hr
  have T:=an (gx e_c h1) T
  refine wA T (g:=?_)
  obtain⟨v6,h2,hr⟩:=bs hr
  apply TO.cal (wn T) rfl Vz (tX h2) rfl rfl rfl
  repeat exact sd T
  refine wa_ T (g:=?_)
  cases hr
  refine⟨.inr rfl,_,(ry T),?_⟩
  exact wr [] rfl .nil
 rfl
def y12:=an @ag117 <| an @ag3 <| @bM
theorem oZ{v1:Int}{v2:(List (Nat×Nat))}{v3:Int}(hr:gU v1 v2=some (v3)):Spec (lim Tryz.prog) 112 [.fptr true [.v (.int .i64 v1)] 0,.fptr true [.func 81 [] [.fptr true [.list 1 (v2.map e_c)] 0]] 0] ⟨[.v (.int .i64 v3)],[]⟩:=by
 unfold gU at hr
 have T:=an y12 <| @e_c.eq_1
 apply Spec.fn Tryz.func112 rfl
 focus (simp[Tryz.f112]<;>exact rfl)
 focus
  refine wA T (g:=?_)
  obtain⟨v8,h7,hr⟩:=bs hr
  refine TX.loopE (step:=bE v1 v2) (x:=0) h7 (fun v4=>⟨.Z::.fptr true [.func 81 [] [.fptr true [.list 1 (v2.map e_c)] 0]] 0::.Z::.Z::.Z::.v (.int .i64 v1)::.v (.int .i64 v4)::.Z::.Z::.Z::.Z::.Z::.Z::.Z::.Z::.Z::[],[]⟩) (fun e=>match e with|(.inl v6)=>(.ret,⟨.Z::.Z::.v (.int .i64 v6)::.Z::.Z::.Z::.Z::.Z::.Z::.Z::.Z::.Z::.Z::.Z::.Z::.Z::[],[]⟩)|(.inr _)=>(.exit 0,⟨.Z::.Z::.Z::.Z::.Z::.Z::.Z::.Z::.Z::.Z::.Z::.Z::.Z::.Z::.Z::.Z::[],[]⟩)) ?_ ?_ ?_ ?_
  ·rintro v4 v0 hr
   dsimp only[bE] at hr
   try dsimp only
   refine wa_ T (g:=?_)
   rcases ifs hr with⟨h4,hr⟩|⟨h4,hr⟩
   ·have T:=an h4 T
    refine wA T (g:=?_)
    obtain⟨v7,h5,hr⟩:=bs hr
    apply TO.cal (wn T) rfl Vn (mF h5) rfl rfl rfl
    repeat exact sd T
    refine wa_ T (g:=?_)
    rcases ifs hr with⟨h6,hr⟩|⟨h6,hr⟩
    ·have T:=an h6 T
     refine wa_ T (g:=?_)
     cases hr
     refine⟨rfl,?_⟩
     exact wk_ T [] rfl .nil
    ·have T:=an h6 T
     refine wa_ T (g:=?_)
     cases hr
     refine⟨rfl,?_⟩
     exact wk_ T [] rfl .nil
   ·have T:=an h4 T
    refine wa_ T (g:=?_)
    cases hr
    refine⟨rfl,?_⟩
    exact wk_ T [] rfl .nil
  ·intro e h;rcases e with _|e<;>cases h
  ·try dsimp only
   rcases v8 with v9|_
   ·try dsimp only at hr
    try dsimp only
    refine wa_ T (g:=?_)
    cases hr
    refine⟨.inr rfl,_,(ry T),?_⟩
    exact wr [] rfl .nil
   ·try dsimp only at hr
    try dsimp only
    refine wa_ T (g:=?_)
    cases hr
    refine⟨.inr rfl,_,(ry T),?_⟩
    exact wr [] rfl .nil
  ·try dsimp only
   exact wr [] rfl .nil
 rfl
def y13:=an @ag70 <| an @cs70 <| an @ok70 <| an @so114 <| an @bM <| an @nD <| @Ap
theorem nT{v1:Bool}{v2:Int}{v3:Bool}{v4:Int}{v5:Int}{v6:(List (Nat×Nat))}{v7:Int}(hr:fE v1 v2 v3 v4 v5 v6=some (v7)):Spec (lim Tryz.prog) 30 [.list 1 [[.func 85 [] [.fptr true [.v (.bool v1)] 0,.fptr true [.v (.int .i64 v2)] 0]],[.func 85 [] [.fptr true [.v (.bool v3)] 0,.fptr true [.v (.int .i64 v4)] 0]],[.func 112 [] [.fptr true [.v (.int .i64 v5)] 0,.fptr true [.func 81 [] [.fptr true [.list 1 (v6.map e_c)] 0]] 0]]]] ⟨[.v (.int .i64 v7)],[]⟩:=by
 unfold fE at hr
 have T:=an y13 <| @e_c.eq_1
 apply Spec.fn Tryz.func30 rfl
 focus (simp[Tryz.f30]<;>exact rfl)
 focus
  refine wc_ T (g:=?_)
  refine TX.unroll ?_
  repeat (first|(with_reducible first|refine mv ?_|refine m12 rfl ?_|refine TO.nil ?_)|((with_reducible first|apply TO.bin|apply TO.ia|apply TO.ld|apply TO.asg|apply TO.mv);(repeat (focus (show _=_;first|exact k1 rfl|exact k2 rfl|(simp only[zz,y13,e_c,Nat.reduceAdd,Nat.reduceMul,Nat.reduceLeDiff,Nat.reduceEqDiff,aA,z5,Int.reduceToNat,Int.reduceLE,Int.reduceLT,Int.cast_ofNat_Int,tload,aV,aU,List.getElem?_map]<;>exact rfl)|exact rfl)));(with_reducible apply TO.here))|((with_reducible apply TX.region);(focus (simp only[zl]<;>exact rfl));(focus rfl);(try dsimp only))|((with_reducible apply TX.cond_true);(focus rfl);(focus (first|rfl|(simp only[z1,zn];done))))|((with_reducible apply TX.cond_false);(focus rfl);(focus (first|rfl|(simp only[z1,zn];done))))|fail)
  obtain⟨v8,h1,hr⟩:=bs hr
  apply TO.cal (wn T) rfl nJ (aH h1) rfl rfl rfl
  repeat exact sd T
  refine wa_ T (g:=?_)
  rcases ifs hr with⟨h2,hr⟩|⟨h2,hr⟩
  ·have T:=an h2 T
   refine wa_ T (g:=?_)
   cases hr
   refine⟨.inr rfl,_,(ry T),?_⟩
   exact wk_ T [] rfl .nil
  ·have T:=an h2 T
   refine wa_ T (g:=?_)
   refine TX.unroll ?_
   repeat (first|(with_reducible first|refine mv ?_|refine m12 rfl ?_|refine TO.nil ?_)|((with_reducible first|apply TO.bin|apply TO.ia|apply TO.ld|apply TO.asg|apply TO.mv);(repeat (focus (show _=_;first|exact k1 rfl|exact k2 rfl|(simp only[zz,y13,e_c,Nat.reduceAdd,Nat.reduceMul,Nat.reduceLeDiff,Nat.reduceEqDiff,aA,z5,Int.reduceToNat,Int.reduceLE,Int.reduceLT,Int.cast_ofNat_Int,tload,aV,aU,List.getElem?_map,h2]<;>exact rfl)|exact rfl)));(with_reducible apply TO.here))|((with_reducible apply TX.region);(focus (simp only[zl]<;>exact rfl));(focus rfl);(try dsimp only))|((with_reducible apply TX.cond_true);(focus rfl);(focus (first|rfl|(simp only[z1,zn,h2];done))))|((with_reducible apply TX.cond_false);(focus rfl);(focus (first|rfl|(simp only[z1,zn,h2];done))))|fail)
   obtain⟨v9,h3,hr⟩:=bs hr
   apply TO.cal (wn T) rfl nJ (aH h3) rfl rfl rfl
   repeat exact sd T
   refine wa_ T (g:=?_)
   rcases ifs hr with⟨h4,hr⟩|⟨h4,hr⟩
   ·have T:=an h4 T
    refine wa_ T (g:=?_)
    cases hr
    refine⟨.inr rfl,_,(ry T),?_⟩
    exact wk_ T [] rfl .nil
   ·have T:=an h4 T
    refine wa_ T (g:=?_)
    refine TX.unroll ?_
    repeat (first|(with_reducible first|refine mv ?_|refine m12 rfl ?_|refine TO.nil ?_)|((with_reducible first|apply TO.bin|apply TO.ia|apply TO.ld|apply TO.asg|apply TO.mv);(repeat (focus (show _=_;first|exact k1 rfl|exact k2 rfl|(simp only[zz,y13,e_c,Nat.reduceAdd,Nat.reduceMul,Nat.reduceLeDiff,Nat.reduceEqDiff,aA,z5,Int.reduceToNat,Int.reduceLE,Int.reduceLT,Int.cast_ofNat_Int,tload,aV,aU,List.getElem?_map,h2,h4]<;>exact rfl)|exact rfl)));(with_reducible apply TO.here))|((with_reducible apply TX.region);(focus (simp only[zl]<;>exact rfl));(focus rfl);(try dsimp only))|((with_reducible apply TX.cond_true);(focus rfl);(focus (first|rfl|(simp only[z1,zn,h2,h4];done))))|((with_reducible apply TX.cond_false);(focus rfl);(focus (first|rfl|(simp only[z1,zn,h2,h4];done))))|fail)
    obtain⟨v10,h5,hr⟩:=bs hr
    apply TO.cal (wn T) rfl Dz (oZ h5) rfl rfl rfl
    repeat exact sd T
    refine wa_ T (g:=?_)
    rcases ifs hr with⟨h6,hr⟩|⟨h6,hr⟩
    ·have T:=an h6 T
     refine wa_ T (g:=?_)
     cases hr
     refine⟨.inr rfl,_,(ry T),?_⟩
     exact wk_ T [] rfl .nil
    ·have T:=an h6 T
     refine wa_ T (g:=?_)
     refine TX.unroll ?_
     refine wa_ T (g:=?_)
     cases hr
     refine⟨.inr rfl,_,(ry T),?_⟩
     exact wk_ T [] rfl .nil
 rfl
def y14:=an @ag31 <| an @cs70 <| an @so114 <| an @so31 <| @zc70
theorem nW{v1:(List (Nat×Nat))}{v2:Int}(hr:aN v1=some (v2)):Spec (lim Tryz.prog) 79 [.fptr true [.list 1 (v1.map e_c)] 0] ⟨[.v (.int .i64 v2)],[]⟩:=by
 unfold aN at hr
 have T:=an y14 <| @e_c.eq_1
 apply Spec.fn Tryz.func79 rfl
 focus (simp[Tryz.f79]<;>exact rfl)
 focus
  refine wC T (g:=?_)
  obtain⟨⟨v3,v4⟩,h1,hr⟩:=bs hr
  try dsimp only at hr
  apply TD.cal (wn T) rfl iF (aF h1) rfl rfl rfl
  repeat exact sd T
  refine wC T (g:=?_)
  obtain⟨⟨v5,v6⟩,h2,hr⟩:=bs hr
  try dsimp only at hr
  apply TD.cal (wn T) rfl iF (aF h2) rfl rfl rfl
  repeat exact sd T
  refine wC T (g:=?_)
  obtain⟨⟨v7,v8⟩,h3,hr⟩:=bs hr
  try dsimp only at hr
  apply TD.cal (wn T) rfl Kp (qX h3) rfl rfl rfl
  repeat exact sd T
  refine we_ T (g:=?_)
  obtain⟨v9,h4,hr⟩:=bs hr
  apply TD.cal (wn T) rfl pW (nT h4) rfl rfl rfl
  repeat exact sd T
  refine wa_ T (g:=?_)
  cases hr
  refine⟨.inr rfl,_,(ry T),?_⟩
  exact wr [] rfl .nil
 rfl
theorem kN{v1:Int}{v2:Int}{v3:Int}{v4:Bool}{v5:Int}(hr:fU v1 v2 v3=some (v4,v5)):Spec (lim Tryz.prog) 58 [.v (.int .i64 v1),.v (.int .i64 v2),.v (.int .i64 v3)] ⟨[.func 85 [] [.fptr true [.v (.bool v4)] 0,.fptr true [.v (.int .i64 v5)] 0]],[]⟩:=by
 unfold fU at hr
 have T:=trivial
 apply Spec.fn Tryz.func58 rfl
 focus (simp[Tryz.f58]<;>exact rfl)
 focus
  refine wa_ T (g:=?_)
  rcases ifs hr with⟨h1,hr⟩|⟨h1,hr⟩
  ·have T:=an h1 T
   refine wa_ T (g:=?_)
   obtain⟨⟨v6,v7⟩,h2,hr⟩:=bs hr
   try dsimp only at hr
   apply TO.cal (wn T) rfl iF (aF h2) rfl rfl rfl
   repeat exact sd T
   refine wa_ T (g:=?_)
   cases hr
   refine⟨.inr rfl,_,(ry T),?_⟩
   exact wk_ T [] rfl .nil
  ·have T:=an h1 T
   refine wa_ T (g:=?_)
   obtain⟨⟨v8,v9⟩,h3,hr⟩:=bs hr
   try dsimp only at hr
   apply TO.cal (wn T) rfl iF (aF h3) rfl rfl rfl
   repeat exact sd T
   refine wa_ T (g:=?_)
   cases hr
   refine⟨.inr rfl,_,(ry T),?_⟩
   exact wk_ T [] rfl .nil
 rfl
theorem rN{v1:Int}{v2:(List Int)}{v3:Int}{v4:Int}{v5:Int}{v6:(List Int)}{v7:Int}{v8:Int}(hr:jN v1 v2 v3 v4=some (v5,v6,v7,v8)):Spec (lim Tryz.prog) 80 [.v (.int .i64 v1),.func 128 [] [.fptr true [.list 1 (v2.map e_i)] 0,.fptr true [.v (.int .i64 v3)] 0,.fptr true [.v (.int .i64 v4)] 0]] ⟨[.func 112 [] [.fptr true [.v (.int .i64 v5)] 0,.fptr true [.func 128 [] [.fptr true [.list 1 (v6.map e_i)] 0,.fptr true [.v (.int .i64 v7)] 0,.fptr true [.v (.int .i64 v8)] 0]] 0]],[]⟩:=by
 unfold jN at hr
 have T:=@e_i.eq_1
 apply Spec.fn Tryz.func80 rfl
 focus (simp[Tryz.f80]<;>exact rfl)
 focus
  refine wb_ T (g:=?_)
  cases hr
  refine⟨.inr rfl,_,(ry T),?_⟩
  exact wr [] rfl .nil
 rfl
def y15:=an @ag24 <| @so24
theorem qS{v1:(List Int)}{v2:Int}{v3:Int}{v4:Int}{v5:(List Int)}{v6:Int}{v7:Int}(hr:jS v1 v2 v3=some (v4,v5,v6,v7)):Spec (lim Tryz.prog) 115 [.list 1 (v1.map e_i),.v (.int .i64 v2),.v (.int .i64 v3)] ⟨[.func 112 [] [.fptr true [.v (.int .i64 v4)] 0,.fptr true [.func 128 [] [.fptr true [.list 1 (v5.map e_i)] 0,.fptr true [.v (.int .i64 v6)] 0,.fptr true [.v (.int .i64 v7)] 0]] 0]],[]⟩:=by
 unfold jS at hr
 have T:=an y15 <| @e_i.eq_1
 apply Spec.fn Tryz.func115 rfl
 focus (simp[Tryz.f115]<;>exact rfl)
 focus
  refine wD T (g:=?_)
  obtain⟨⟨v8,v9,v10,v11⟩,h1,hr⟩:=bs hr
  try dsimp only at hr
  apply TO.cal (wn T) rfl Kp (rN h1) rfl rfl rfl
  repeat exact sd T
  refine wa_ T (g:=?_)
  cases hr
  refine⟨.inr rfl,_,(ry T),?_⟩
  exact wr [] rfl .nil
 rfl
def y16:=an @ag3 <| an @cs3 <| an @ok3 <| an @so24 <| @bM
theorem nV{v1:(List Int)}{v2:Int}{v3:Int}(hr:fT v1 v2=some (v3)):Spec (lim Tryz.prog) 129 [.list 1 (v1.map e_i),.v (.int .i64 v2)] ⟨[.v (.int .i64 v3)],[]⟩:=by
 unfold fT at hr
 have T:=an y16 <| @e_i.eq_1
 apply Spec.fn Tryz.func129 rfl
 focus (simp[Tryz.f129]<;>exact rfl)
 focus
  refine wc_ T (g:=?_)
  obtain⟨v8,h7,hr⟩:=bs hr
  refine TX.loopE (step:=bU v1 v2) (x:=0) h7 (fun v4=>⟨.list 1 (v1.map e_i)::.v (.int .i64 v2)::.Z::.Z::.Z::.Z::.Z::.v (.int .i64 (v1.length:Int))::.v (.int .i64 v4)::.Z::.Z::.Z::.Z::.Z::.Z::.Z::.Z::.Z::.Z::[],[]⟩) (fun e=>match e with|(.inl v6)=>(.ret,⟨.Z::.Z::.Z::.Z::.v (.int .i64 v6)::.Z::.Z::.Z::.Z::.Z::.Z::.Z::.Z::.Z::.Z::.Z::.Z::.Z::.Z::[],[]⟩)|(.inr _)=>(.exit 0,⟨.Z::.Z::.Z::.Z::.Z::.Z::.Z::.Z::.Z::.Z::.Z::.Z::.Z::.Z::.Z::.Z::.Z::.Z::.Z::[],[]⟩)) ?_ ?_ ?_ ?_
  ·rintro v4 v0 hr
   dsimp only[bU] at hr
   try dsimp only
   refine wa_ T (g:=?_)
   rcases ifs hr with⟨h4,hr⟩|⟨h4,hr⟩
   ·have T:=an h4 T
    refine wa_ T (g:=?_)
    obtain⟨v7,h5,hr⟩:=bs hr
    have T:=an (gx e_i h5) T
    refine wA T (g:=?_)
    rcases ifs hr with⟨h6,hr⟩|⟨h6,hr⟩
    ·have T:=an h6 T
     refine wa_ T (g:=?_)
     cases hr
     refine⟨rfl,?_⟩
     exact wk_ T [] rfl .nil
    ·have T:=an h6 T
     refine wa_ T (g:=?_)
     cases hr
     refine⟨rfl,?_⟩
     exact wk_ T [] rfl .nil
   ·have T:=an h4 T
    refine wa_ T (g:=?_)
    cases hr
    refine⟨rfl,?_⟩
    exact wk_ T [] rfl .nil
  ·intro e h;rcases e with _|e<;>cases h
  ·try dsimp only
   rcases v8 with v9|_
   ·try dsimp only at hr
    try dsimp only
    refine wa_ T (g:=?_)
    cases hr
    refine⟨.inr rfl,_,(ry T),?_⟩
    exact wr [] rfl .nil
   ·try dsimp only at hr
    try dsimp only
    refine wa_ T (g:=?_)
    cases hr
    refine⟨.inr rfl,_,(ry T),?_⟩
    exact wr [] rfl .nil
  ·try dsimp only
   exact wr [] rfl .nil
 rfl
theorem mK{v1:(List Int)}{v2:Int}{v3:Bool}(hr:cW v1 v2=some (v3)):Spec (lim Tryz.prog) 116 [.list 1 (v1.map e_i),.v (.int .i64 v2)] ⟨[.v (.bool v3)],[]⟩:=by
 unfold cW at hr
 have T:=@e_i.eq_1
 apply Spec.fn Tryz.func116 rfl
 focus (simp[Tryz.f116]<;>exact rfl)
 focus
  refine wa_ T (g:=?_)
  obtain⟨v4,h1,hr⟩:=bs hr
  apply TO.cal (wn T) rfl Tt (nV h1) rfl rfl rfl
  repeat exact sd T
  refine wa_ T (g:=?_)
  cases hr
  refine⟨.inr rfl,_,(ry T),?_⟩
  exact wr [] rfl .nil
 rfl
def y17:=an @ag24 <| an @ag3 <| an @cs3 <| an @cs70 <| an @ok3 <| an @so114 <| an @so24 <| @zc70
theorem mG{v1:Int}{v2:(List Int)}{v3:Int}{v4:Int}{v5:Int}(hr:dA v1 v2 v3 v4=some (v5)):Spec (lim Tryz.prog) 128 [.v (.int .i64 v1),.fptr true [.list 1 (v2.map e_i)] 0,.fptr true [.v (.int .i64 v3)] 0,.fptr true [.v (.int .i64 v4)] 0] ⟨[.v (.int .i64 v5)],[]⟩:=by
 unfold dA at hr
 have T:=an y17 <| @e_i.eq_1
 apply Spec.fn Tryz.func128 rfl
 focus (simp[Tryz.f128]<;>exact rfl)
 focus
  refine wA T (g:=?_)
  obtain⟨v6,h1,hr⟩:=bs hr
  have T:=an (gx e_i h1) T
  refine wA T (g:=?_)
  obtain⟨⟨v7,v8⟩,h2,hr⟩:=bs hr
  try dsimp only at hr
  apply TD.cal (wn T) rfl Ko (kN h2) rfl rfl rfl
  repeat exact sd T
  refine wa_ T (g:=?_)
  rcases ifs hr with⟨h3,hr⟩|⟨h3,hr⟩
  ·have T:=an h3 T
   refine wA T (g:=?_)
   obtain⟨v9,h4,hr⟩:=bs hr
   have T:=an (gx e_i h4) T
   refine wA T (g:=?_)
   obtain⟨⟨v10,v11⟩,h5,hr⟩:=bs hr
   try dsimp only at hr
   apply TD.cal (wn T) rfl iF (aF h5) rfl rfl rfl
   repeat exact sd T
   refine we_ T (g:=?_)
   obtain⟨v12,h6,hr⟩:=bs hr
   apply TD.cal (wn T) rfl pW (bH h6) rfl rfl rfl
   repeat exact sd T
   refine wa_ T (g:=?_)
   cases hr
   refine⟨.inr rfl,_,(ry T),?_⟩
   exact wk_ T [] rfl .nil
  ·have T:=an h3 T
   refine wa_ T (g:=?_)
   obtain⟨⟨v13,v14⟩,h7,hr⟩:=bs hr
   try dsimp only at hr
   apply TD.cal (wn T) rfl iF (aF h7) rfl rfl rfl
   repeat exact sd T
   refine we_ T (g:=?_)
   obtain⟨v15,h8,hr⟩:=bs hr
   apply TD.cal (wn T) rfl pW (bH h8) rfl rfl rfl
   repeat exact sd T
   refine wa_ T (g:=?_)
   cases hr
   refine⟨.inr rfl,_,(ry T),?_⟩
   exact wk_ T [] rfl .nil
 rfl
def y18:=an @ag117 <| an @ag3 <| @bM
theorem pB{v1:Int}{v2:(List Int)}{v3:Int}{v4:Int}{v5:Int}(hr:gS v1 v2 v3 v4=some (v5)):Spec (lim Tryz.prog) 112 [.fptr true [.v (.int .i64 v1)] 0,.fptr true [.func 128 [] [.fptr true [.list 1 (v2.map e_i)] 0,.fptr true [.v (.int .i64 v3)] 0,.fptr true [.v (.int .i64 v4)] 0]] 0] ⟨[.v (.int .i64 v5)],[]⟩:=by
 unfold gS at hr
 have T:=an y18 <| @e_i.eq_1
 apply Spec.fn Tryz.func112 rfl
 focus (simp[Tryz.f112]<;>exact rfl)
 focus
  refine wA T (g:=?_)
  obtain⟨v10,h7,hr⟩:=bs hr
  refine TX.loopE (step:=cM v1 v2 v3 v4) (x:=0) h7 (fun v6=>⟨.Z::.fptr true [.func 128 [] [.fptr true [.list 1 (v2.map e_i)] 0,.fptr true [.v (.int .i64 v3)] 0,.fptr true [.v (.int .i64 v4)] 0]] 0::.Z::.Z::.Z::.v (.int .i64 v1)::.v (.int .i64 v6)::.Z::.Z::.Z::.Z::.Z::.Z::.Z::.Z::.Z::[],[]⟩) (fun e=>match e with|(.inl v8)=>(.ret,⟨.Z::.Z::.v (.int .i64 v8)::.Z::.Z::.Z::.Z::.Z::.Z::.Z::.Z::.Z::.Z::.Z::.Z::.Z::[],[]⟩)|(.inr _)=>(.exit 0,⟨.Z::.Z::.Z::.Z::.Z::.Z::.Z::.Z::.Z::.Z::.Z::.Z::.Z::.Z::.Z::.Z::[],[]⟩)) ?_ ?_ ?_ ?_
  ·rintro v6 v0 hr
   dsimp only[cM] at hr
   try dsimp only
   refine wa_ T (g:=?_)
   rcases ifs hr with⟨h4,hr⟩|⟨h4,hr⟩
   ·have T:=an h4 T
    refine wA T (g:=?_)
    obtain⟨v9,h5,hr⟩:=bs hr
    apply TO.cal (wn T) rfl Tl (mG h5) rfl rfl rfl
    repeat exact sd T
    refine wa_ T (g:=?_)
    rcases ifs hr with⟨h6,hr⟩|⟨h6,hr⟩
    ·have T:=an h6 T
     refine wa_ T (g:=?_)
     cases hr
     refine⟨rfl,?_⟩
     exact wk_ T [] rfl .nil
    ·have T:=an h6 T
     refine wa_ T (g:=?_)
     cases hr
     refine⟨rfl,?_⟩
     exact wk_ T [] rfl .nil
   ·have T:=an h4 T
    refine wa_ T (g:=?_)
    cases hr
    refine⟨rfl,?_⟩
    exact wk_ T [] rfl .nil
  ·intro e h;rcases e with _|e<;>cases h
  ·try dsimp only
   rcases v10 with v11|_
   ·try dsimp only at hr
    try dsimp only
    refine wa_ T (g:=?_)
    cases hr
    refine⟨.inr rfl,_,(ry T),?_⟩
    exact wr [] rfl .nil
   ·try dsimp only at hr
    try dsimp only
    refine wa_ T (g:=?_)
    cases hr
    refine⟨.inr rfl,_,(ry T),?_⟩
    exact wr [] rfl .nil
  ·try dsimp only
   exact wr [] rfl .nil
 rfl
end Go.Rex
namespace Go.Rex
open Go.Proofs
open Go Go.Rex Go.RowKit
set_option maxRecDepth 100000
set_option maxHeartbeats 1000000
def y19:=an @ag70 <| an @cs70 <| an @ok70 <| an @so114 <| an @bM <| an @nD <| an @Ap <| @Hx
theorem nH{v1:Bool}{v2:Int}{v3:Bool}{v4:Int}{v5:Int}{v6:(List Int)}{v7:Int}{v8:Int}{v9:Bool}{v10:Int}{v11:Int}(hr:fJ v1 v2 v3 v4 v5 v6 v7 v8 v9 v10=some (v11)):Spec (lim Tryz.prog) 30 [.list 1 [[.func 85 [] [.fptr true [.v (.bool v1)] 0,.fptr true [.v (.int .i64 v2)] 0]],[.func 85 [] [.fptr true [.v (.bool v3)] 0,.fptr true [.v (.int .i64 v4)] 0]],[.func 112 [] [.fptr true [.v (.int .i64 v5)] 0,.fptr true [.func 128 [] [.fptr true [.list 1 (v6.map e_i)] 0,.fptr true [.v (.int .i64 v7)] 0,.fptr true [.v (.int .i64 v8)] 0]] 0]],[.func 85 [] [.fptr true [.v (.bool v9)] 0,.fptr true [.v (.int .i64 v10)] 0]]]] ⟨[.v (.int .i64 v11)],[]⟩:=by
 unfold fJ at hr
 have T:=an y19 <| @e_i.eq_1
 apply Spec.fn Tryz.func30 rfl
 focus (simp[Tryz.f30]<;>exact rfl)
 focus
  refine wc_ T (g:=?_)
  refine TX.unroll ?_
  repeat (first|(with_reducible first|refine mv ?_|refine m12 rfl ?_|refine TO.nil ?_)|((with_reducible first|apply TO.bin|apply TO.ia|apply TO.ld|apply TO.asg|apply TO.mv);(repeat (focus (show _=_;first|exact k1 rfl|exact k2 rfl|(simp only[zz,y19,e_i,Nat.reduceAdd,Nat.reduceMul,Nat.reduceLeDiff,Nat.reduceEqDiff,aA,z5,Int.reduceToNat,Int.reduceLE,Int.reduceLT,Int.cast_ofNat_Int,tload,aV,aU,List.getElem?_map]<;>exact rfl)|exact rfl)));(with_reducible apply TO.here))|((with_reducible apply TX.region);(focus (simp only[zl]<;>exact rfl));(focus rfl);(try dsimp only))|((with_reducible apply TX.cond_true);(focus rfl);(focus (first|rfl|(simp only[z1,zn];done))))|((with_reducible apply TX.cond_false);(focus rfl);(focus (first|rfl|(simp only[z1,zn];done))))|fail)
  obtain⟨v12,h1,hr⟩:=bs hr
  apply TO.cal (wn T) rfl nJ (aH h1) rfl rfl rfl
  repeat exact sd T
  refine wa_ T (g:=?_)
  rcases ifs hr with⟨h2,hr⟩|⟨h2,hr⟩
  ·have T:=an h2 T
   refine wa_ T (g:=?_)
   cases hr
   refine⟨.inr rfl,_,(ry T),?_⟩
   exact wk_ T [] rfl .nil
  ·have T:=an h2 T
   refine wa_ T (g:=?_)
   refine TX.unroll ?_
   repeat (first|(with_reducible first|refine mv ?_|refine m12 rfl ?_|refine TO.nil ?_)|((with_reducible first|apply TO.bin|apply TO.ia|apply TO.ld|apply TO.asg|apply TO.mv);(repeat (focus (show _=_;first|exact k1 rfl|exact k2 rfl|(simp only[zz,y19,e_i,Nat.reduceAdd,Nat.reduceMul,Nat.reduceLeDiff,Nat.reduceEqDiff,aA,z5,Int.reduceToNat,Int.reduceLE,Int.reduceLT,Int.cast_ofNat_Int,tload,aV,aU,List.getElem?_map,h2]<;>exact rfl)|exact rfl)));(with_reducible apply TO.here))|((with_reducible apply TX.region);(focus (simp only[zl]<;>exact rfl));(focus rfl);(try dsimp only))|((with_reducible apply TX.cond_true);(focus rfl);(focus (first|rfl|(simp only[z1,zn,h2];done))))|((with_reducible apply TX.cond_false);(focus rfl);(focus (first|rfl|(simp only[z1,zn,h2];done))))|fail)
   obtain⟨v13,h3,hr⟩:=bs hr
   apply TO.cal (wn T) rfl nJ (aH h3) rfl rfl rfl
   repeat exact sd T
   refine wa_ T (g:=?_)
   rcases ifs hr with⟨h4,hr⟩|⟨h4,hr⟩
   ·have T:=an h4 T
    refine wa_ T (g:=?_)
    cases hr
    refine⟨.inr rfl,_,(ry T),?_⟩
    exact wk_ T [] rfl .nil
   ·have T:=an h4 T
    refine wa_ T (g:=?_)
    refine TX.unroll ?_
    repeat (first|(with_reducible first|refine mv ?_|refine m12 rfl ?_|refine TO.nil ?_)|((with_reducible first|apply TO.bin|apply TO.ia|apply TO.ld|apply TO.asg|apply TO.mv);(repeat (focus (show _=_;first|exact k1 rfl|exact k2 rfl|(simp only[zz,y19,e_i,Nat.reduceAdd,Nat.reduceMul,Nat.reduceLeDiff,Nat.reduceEqDiff,aA,z5,Int.reduceToNat,Int.reduceLE,Int.reduceLT,Int.cast_ofNat_Int,tload,aV,aU,List.getElem?_map,h2,h4]<;>exact rfl)|exact rfl)));(with_reducible apply TO.here))|((with_reducible apply TX.region);(focus (simp only[zl]<;>exact rfl));(focus rfl);(try dsimp only))|((with_reducible apply TX.cond_true);(focus rfl);(focus (first|rfl|(simp only[z1,zn,h2,h4];done))))|((with_reducible apply TX.cond_false);(focus rfl);(focus (first|rfl|(simp only[z1,zn,h2,h4];done))))|fail)
    obtain⟨v14,h5,hr⟩:=bs hr
    apply TO.cal (wn T) rfl Dz (pB h5) rfl rfl rfl
    repeat exact sd T
    refine wa_ T (g:=?_)
    rcases ifs hr with⟨h6,hr⟩|⟨h6,hr⟩
    ·have T:=an h6 T
     refine wa_ T (g:=?_)
     cases hr
     refine⟨.inr rfl,_,(ry T),?_⟩
     exact wk_ T [] rfl .nil
    ·have T:=an h6 T
     refine wa_ T (g:=?_)
     refine TX.unroll ?_
     repeat (first|(with_reducible first|refine mv ?_|refine m12 rfl ?_|refine TO.nil ?_)|((with_reducible first|apply TO.bin|apply TO.ia|apply TO.ld|apply TO.asg|apply TO.mv);(repeat (focus (show _=_;first|exact k1 rfl|exact k2 rfl|(simp only[zz,y19,e_i,Nat.reduceAdd,Nat.reduceMul,Nat.reduceLeDiff,Nat.reduceEqDiff,aA,z5,Int.reduceToNat,Int.reduceLE,Int.reduceLT,Int.cast_ofNat_Int,tload,aV,aU,List.getElem?_map,h2,h4,h6]<;>exact rfl)|exact rfl)));(with_reducible apply TO.here))|((with_reducible apply TX.region);(focus (simp only[zl]<;>exact rfl));(focus rfl);(try dsimp only))|((with_reducible apply TX.cond_true);(focus rfl);(focus (first|rfl|(simp only[z1,zn,h2,h4,h6];done))))|((with_reducible apply TX.cond_false);(focus rfl);(focus (first|rfl|(simp only[z1,zn,h2,h4,h6];done))))|fail)
     obtain⟨v15,h7,hr⟩:=bs hr
     apply TO.cal (wn T) rfl nJ (aH h7) rfl rfl rfl
     repeat exact sd T
     refine wa_ T (g:=?_)
     rcases ifs hr with⟨h8,hr⟩|⟨h8,hr⟩
     ·have T:=an h8 T
      refine wa_ T (g:=?_)
      cases hr
      refine⟨.inr rfl,_,(ry T),?_⟩
      exact wk_ T [] rfl .nil
     ·have T:=an h8 T
      refine wa_ T (g:=?_)
      refine TX.unroll ?_
      refine wa_ T (g:=?_)
      cases hr
      refine⟨.inr rfl,_,(ry T),?_⟩
      exact wk_ T [] rfl .nil
 rfl
end Go.Rex
namespace Go.Rex
open Go.Proofs
open Go Go.Rex Go.RowKit
set_option maxRecDepth 100000
set_option maxHeartbeats 200000
def y20:=an @ag24 <| an @ag3 <| an @cs70 <| an @rE <| an @xE <| an @so114 <| an @so24 <| @zc70
theorem oL{v1:Int}{v2:(List Int)}{v3:Int}(hr:eS v1 v2=some (v3)):Spec (lim Tryz.prog) 83 [.agg [.v (.int .i64 v1),.list 1 (v2.map e_i)]] ⟨[.v (.int .i64 v3)],[]⟩:=by
 unfold eS at hr
 have T:=an y20 <| @e_i.eq_1
 apply Spec.fn Tryz.func83 rfl
 focus (simp[Tryz.f83]<;>exact rfl)
 focus
  refine wB T (g:=?_)
  obtain⟨⟨v4,v5⟩,h1,hr⟩:=bs hr
  try dsimp only at hr
  apply TD.cal (wn T) rfl Ko (kN h1) rfl rfl rfl
  repeat exact sd T
  refine wC T (g:=?_)
  obtain⟨⟨v6,v7⟩,h2,hr⟩:=bs hr
  try dsimp only at hr
  apply TD.cal (wn T) rfl iF (aF h2) rfl rfl rfl
  repeat exact sd T
  refine wA T (g:=?_)
  obtain⟨⟨v8,v9,v10,v11⟩,h3,hr⟩:=bs hr
  try dsimp only at hr
  apply TD.cal (wn T) rfl Tx (qS h3) rfl rfl rfl
  repeat exact sd T
  refine wA T (g:=?_)
  obtain⟨v12,h4,hr⟩:=bs hr
  apply TD.cal (wn T) rfl Ub (mK h4) rfl rfl rfl
  repeat exact sd T
  refine wa_ T (g:=?_)
  apply TD.pop1 (wn T) (dF rfl)
  repeat exact sd T
  refine wa_ T (g:=?_)
  obtain⟨⟨v13,v14⟩,h5,hr⟩:=bs hr
  try dsimp only at hr
  apply TD.cal (wn T) rfl iF (aF h5) rfl rfl rfl
  repeat exact sd T
  refine we_ T (g:=?_)
  obtain⟨v15,h6,hr⟩:=bs hr
  apply TD.cal (wn T) rfl pW (nH h6) rfl rfl rfl
  repeat exact sd T
  refine wa_ T (g:=?_)
  cases hr
  refine⟨.inr rfl,_,(ry T),?_⟩
  exact wr [] rfl .nil
 rfl
def y21:=an @ag26 <| an @cs26 <| an @Ku <| @ok26
theorem nR{v1:Int}{v2:(List Int)}{v3:Int}(hr:cL v1 v2=some (v3)):Spec (lim Tryz.prog) 32 [.agg [.v (.int .i64 v1),.list 1 (v2.map e_i)]] ⟨[.v (.int .i64 v3)],[]⟩:=by
 unfold cL at hr
 have T:=an y21 <| @e_i.eq_1
 apply Spec.fn Tryz.func32 rfl
 focus (simp[Tryz.f32]<;>exact rfl)
 focus
  refine wB T (g:=?_)
  obtain⟨v4,h1,hr⟩:=bs hr
  apply TO.cal (wn T) rfl Ur (oL h1) rfl rfl rfl
  repeat exact sd T
  refine wa_ T (g:=?_)
  cases hr
  refine⟨.inr rfl,_,(ry T),?_⟩
  exact wr [] rfl .nil
 rfl
def y22:=an @ag3 <| an @rE <| @Ku
theorem bC{v1:Int}{v2:(List Int)}{v3:Int}(hr:aE v1 v2=some (v3)):Spec (lim Tryz.prog) 37 [.agg [.v (.int .i64 v1),.list 1 (v2.map e_i)]] ⟨[.v (.int .i64 v3)],[]⟩:=by
 unfold aE at hr
 have T:=an y22 <| @e_i.eq_1
 apply Spec.fn Tryz.func37 rfl
 focus (simp[Tryz.f37]<;>exact rfl)
 focus
  refine wB T (g:=?_)
  obtain⟨v4,h1,hr⟩:=bs hr
  apply TO.pop1 (wn T) (sH rfl rfl (by decide) (h1))
  repeat exact sd T
  refine wa_ T (g:=?_)
  cases hr
  refine⟨.inr rfl,_,(ry T),?_⟩
  exact wr [] rfl .nil
 rfl
def y23:=an @ag3 <| an @ag67 <| an @cs67 <| @ok67
theorem iY{v1:Int}{v2:Int}{v3:(List Int)}{v4:Int}(hr:aQ v1 v2 v3=some (v4)):Spec (lim Tryz.prog) 84 [.fptr true [.v (.int .i64 v1)] 0,.fptr true [.v (.int .i64 v2),.list 1 (v3.map e_i)] 0] ⟨[.v (.int .i64 v4)],[]⟩:=by
 unfold aQ at hr
 have T:=an y23 <| @e_i.eq_1
 apply Spec.fn Tryz.func84 rfl
 focus (simp[Tryz.f84]<;>exact rfl)
 focus
  refine wA T (g:=?_)
  obtain⟨v5,h1,hr⟩:=bs hr
  apply TD.cal (wn T) rfl zM (bC h1) rfl rfl rfl
  repeat exact sd T
  refine wa_ T (g:=?_)
  obtain⟨⟨v6,v7⟩,h2,hr⟩:=bs hr
  try dsimp only at hr
  apply TD.cal (wn T) rfl Ko (kN h2) rfl rfl rfl
  repeat exact sd T
  refine wa_ T (g:=?_)
  obtain⟨v8,h3,hr⟩:=bs hr
  apply TD.cal (wn T) rfl nJ (aH h3) rfl rfl rfl
  repeat exact sd T
  refine wa_ T (g:=?_)
  cases hr
  refine⟨.inr rfl,_,(ry T),?_⟩
  exact wr [] rfl .nil
 rfl
def y24:=an @ag24 <| an @ag3 <| an @cs3 <| an @rE <| an @xE <| an @Ku <| an @ok3 <| an @so24 <| @bM
theorem jC{v1:Int}{v2:(List Int)}{v3:Int}{v4:Int}(hr:cX v1 v2 v3=some (v4)):Spec (lim Tryz.prog) 124 [.agg [.v (.int .i64 v1),.list 1 (v2.map e_i)],.v (.int .i64 v3)] ⟨[.v (.int .i64 v4)],[]⟩:=by
 unfold cX at hr
 have T:=an y24 <| @e_i.eq_1
 apply Spec.fn Tryz.func124 rfl
 focus (simp[Tryz.f124]<;>exact rfl)
 focus
  refine wD T (g:=?_)
  obtain⟨v12,h7,hr⟩:=bs hr
  refine TX.loopE (step:=bT v1 v2 v3) (x:=(0,0)) h7 (fun (v5,v6)=>⟨.Z::.v (.int .i64 v3)::.fptr true [.v (.int .i64 v1),.list 1 (v2.map e_i)] 0::.Z::.Z::.v (.int .i64 v5)::.Z::.Z::.Z::.Z::.list 1 (v2.map e_i)::.v (.int .i64 (v2.length:Int))::.v (.int .i64 v6)::.Z::.Z::.Z::.Z::.Z::.Z::.Z::.Z::.Z::.Z::.Z::.Z::.Z::.Z::.Z::.Z::.Z::.Z::.Z::.Z::.Z::.Z::.Z::[],[]⟩) (fun v9=>(.exit 0,⟨.Z::.v (.int .i64 v3)::.fptr true [.v (.int .i64 v1),.list 1 (v2.map e_i)] 0::.Z::.Z::.v (.int .i64 v9)::.Z::.Z::.Z::.Z::.Z::.Z::.Z::.Z::.Z::.Z::.Z::.Z::.Z::.Z::.Z::.Z::.Z::.Z::.Z::.Z::.Z::.Z::.Z::.Z::.Z::.Z::.Z::.Z::.Z::.Z::[],[]⟩)) ?_ ?_ ?_ ?_
  ·rintro⟨v5,v6⟩ v0 hr
   dsimp only[bT] at hr
   try dsimp only
   refine wa_ T (g:=?_)
   rcases ifs hr with⟨h4,hr⟩|⟨h4,hr⟩
   ·have T:=an h4 T
    refine wa_ T (g:=?_)
    obtain⟨v10,h5,hr⟩:=bs hr
    have T:=an (gx e_i h5) T
    refine wA T (g:=?_)
    obtain⟨v11,h6,hr⟩:=bs hr
    apply TO.pop1 (wn T) (sH rfl rfl (by decide) (h6))
    repeat exact sd T
    refine wa_ T (g:=?_)
    apply TO.pop1 (wn T) (rH rfl rfl (by decide))
    repeat exact sd T
    refine wa_ T (g:=?_)
    apply TO.pop1 (wn T) (rH rfl rfl (by decide))
    repeat exact sd T
    refine wa_ T (g:=?_)
    cases hr
    refine⟨rfl,?_⟩
    exact wk_ T [] rfl .nil
   ·have T:=an h4 T
    refine wa_ T (g:=?_)
    cases hr
    refine⟨rfl,?_⟩
    exact wk_ T [] rfl .nil
  ·intro e h;cases h
  ·try dsimp only
   refine wa_ T (g:=?_)
   obtain⟨v13,h8,hr⟩:=bs hr
   apply TO.pop1 (wn T) (sH rfl rfl (by decide) (h8))
   repeat exact sd T
   refine wA T (g:=?_)
   obtain⟨v14,h9,hr⟩:=bs hr
   apply TO.pop1 (wn T) (sH rfl rfl (by decide) (h9))
   repeat exact sd T
   refine wa_ T (g:=?_)
   apply TO.pop1 (wn T) (rH rfl rfl (by decide))
   repeat exact sd T
   refine wa_ T (g:=?_)
   cases hr
   refine⟨.inr rfl,_,(ry T),?_⟩
   exact wr [] rfl .nil
  ·try dsimp only
   exact wr [] rfl .nil
 rfl
theorem iJ{v1:Int}{v2:(List Int)}{v3:Int}{v4:Int}{v5:Int}{v6:(List Int)}(hr:dP v1 v2 v3=some (v4,v5,v6)):Spec (lim Tryz.prog) 107 [.agg [.v (.int .i64 v1),.list 1 (v2.map e_i)],.v (.int .i64 v3)] ⟨[.func 123 [] [.fptr true [.v (.int .i64 v4)] 0,.fptr true [.v (.int .i64 v5),.list 1 (v6.map e_i)] 0]],[]⟩:=by
 unfold dP at hr
 have T:=@e_i.eq_1
 apply Spec.fn Tryz.func107 rfl
 focus (simp[Tryz.f107]<;>exact rfl)
 focus
  refine wb_ T (g:=?_)
  cases hr
  refine⟨.inr rfl,_,(ry T),?_⟩
  exact wr [] rfl .nil
 rfl
def y25:=an @ag3 <| an @ag67 <| an @cs67 <| @ok67
theorem eQ{v1:Int}{v2:Int}{v3:(List Int)}:ISpec (lim Tryz.prog) 123 [] [.fptr true [.v (.int .i64 v1)] 0,.fptr true [.v (.int .i64 v2),.list 1 (v3.map e_i)] 0] (fun a0=>[.v (.int .i64 a0)]) (fun {X}=>aG (X:=X) v1 v2 v3):=by
 refine ISpec.fn (tms:=fun l=>[.v (.func (.yield l) #[] #[]),.fptr true [.v (.int .i64 v1)] 0,.fptr true [.v (.int .i64 v2),.list 1 (v3.map e_i)] 0,.Z,.Z,.Z,.Z,.Z,.Z,.Z,.Z,.Z]) Tryz.func123 rfl rfl (fun l=>by simp[Tryz.f123]<;>exact rfl) ?_
 intro X O l H v4 xx hY hr
 dsimp only[aG] at hr
 try dsimp only
 repeat (first|(with_reducible first|refine mv ?_|refine m12 rfl ?_)|fail)
 refine TI.of ?_
 repeat (first|(with_reducible first|refine mv ?_|refine m12 rfl ?_|refine TO.nil ?_)|((with_reducible first|apply TO.ld|apply TO.asg);(repeat (focus (show _=_;first|exact k1 rfl|exact k2 rfl|(simp only[zz,y25,e_i,Nat.reduceAdd,Nat.reduceMul,Nat.reduceLeDiff,Nat.reduceEqDiff,tload,aV,aU,List.getElem?_map]<;>exact rfl)|exact rfl)));(with_reducible apply TO.here))|((with_reducible apply TX.region);(focus (simp only[zl]<;>exact rfl));(focus rfl);(try dsimp only))|fail)
 refine⟨[.v (.func (.yield l) #[] #[]),.fptr true [.v (.int .i64 v1)] 0,.fptr true [.v (.int .i64 v2),.list 1 (v3.map e_i)] 0,.Z,.v (.int .i64 v1),.v (.int .i64 v1),.Z,.Z,.Z,.Z,.Z,.Z],?_,?_⟩
 ·exact wr [] rfl .nil
 repeat (first|(with_reducible first|refine mv ?_|refine m12 rfl ?_)|fail)
 obtain⟨v14,h7,hr⟩:=Option.bind_eq_some_iff.1 hr
 try dsimp only at hr
 refine TI.loopW (step:=aM H v2 v3) (y:=(v1,v4)) h7 (fun (v5,v6)=>([.v (.func (.yield l) #[] #[]),.Z,.fptr true [.v (.int .i64 v2),.list 1 (v3.map e_i)] 0,.Z,.v (.int .i64 v5),.Z,.Z,.Z,.Z,.Z,.Z,.Z],v6)) (fun v10=>(.exit 0,([.Z,.Z,.Z,.Z,.Z,.Z,.Z,.Z,.Z,.Z,.Z,.Z],v10))) ?_ rfl ?_ ?_ ?_
 ·try dsimp only
  exact wr [] rfl .nil
 ·rintro⟨v5,v6⟩ v0 hr
  dsimp only[aM] at hr
  try dsimp only
  repeat (first|(with_reducible first|refine mv ?_|refine m12 rfl ?_)|fail)
  refine TI.yield 2 hY (by simp only[zl]<;>exact rfl) (by simp only[List.take_succ_cons,List.take_zero]<;>exact rfl) (by exact rfl) ⟨⟨_,_,_,_,_,rfl⟩⟩ rfl ?_
  try dsimp only
  repeat (first|(with_reducible first|refine mv ?_|refine m12 rfl ?_|refine TO.nil ?_)|((with_reducible first|apply TO.mv);(repeat (focus (show _=_;first|exact k1 rfl|exact k2 rfl|(simp only[zz,y25,e_i,Nat.reduceAdd,Nat.reduceMul,Nat.reduceLeDiff,Nat.reduceEqDiff]<;>exact rfl)|exact rfl)));(with_reducible apply TO.here))|((with_reducible apply TX.region);(focus (simp only[zl]<;>exact rfl));(focus rfl);(try dsimp only))|fail)
  obtain⟨⟨v11,v12⟩,h4,hr⟩:=Option.bind_eq_some_iff.1 hr
  try dsimp only at hr
  refine⟨[.v (.func (.yield l) #[] #[]),.Z,.fptr true [.v (.int .i64 v2),.list 1 (v3.map e_i)] 0,.Z,.v (.int .i64 v5),.Z,.v (.func (.yield l) #[] #[]),.v (.int .i64 v5),.Z,.Z,.Z,.Z],?_,.inl ⟨v5,v11,v12,by first|rfl|(simp only[twant,z1,z7]<;>rfl),rfl,rfl,h4,?_⟩⟩
  ·exact wr [] rfl .nil
  show TO _ _ _ _ ⟨.v (.func (.yield l) #[] #[])::.Z::.fptr true [.v (.int .i64 v2),.list 1 (v3.map e_i)] 0::.Z::.v (.int .i64 v5)::.Z::.v (.func (.yield l) #[] #[])::.v (.int .i64 v5)::.v (.bool v11)::.Z::.Z::.Z::[],[]⟩ _
  repeat (first|(with_reducible first|refine mv ?_|refine m12 rfl ?_|refine TO.nil ?_)|((with_reducible apply TX.region);(focus (simp only[zl]<;>exact rfl));(focus rfl);(try dsimp only))|fail)
  refine⟨[.v (.func (.yield l) #[] #[]),.Z,.fptr true [.v (.int .i64 v2),.list 1 (v3.map e_i)] 0,.Z,.v (.int .i64 v5),.Z,.v (.func (.yield l) #[] #[]),.v (.int .i64 v5),.v (.bool v11),.Z,.Z,.Z],?_,?_⟩
  ·exact wr [] rfl .nil
  repeat (first|(with_reducible first|refine mv ?_|refine m12 rfl ?_)|((with_reducible apply TX.cond_true);(focus rfl);(focus (first|rfl|(simp only[z1,zn];done))))|((with_reducible apply TX.cond_false);(focus rfl);(focus (first|rfl|(simp only[z1,zn];done))))|((with_reducible apply TI.cond_true);(focus rfl);(focus (first|rfl|(simp only[z1,zn];done))))|((with_reducible apply TI.cond_false);(focus rfl);(focus (first|rfl|(simp only[z1,zn];done))))|fail)
  rcases Bool.eq_false_or_eq_true (v11) with h5|h5
  ·rw[if_pos h5] at hr
   repeat (first|(with_reducible first|refine mv ?_|refine m12 rfl ?_)|((with_reducible apply TX.cond_true);(focus rfl);(focus (first|rfl|(simp only[z1,zn,h5];done))))|((with_reducible apply TX.cond_false);(focus rfl);(focus (first|rfl|(simp only[z1,zn,h5];done))))|((with_reducible apply TI.cond_true);(focus rfl);(focus (first|rfl|(simp only[z1,zn,h5];done))))|((with_reducible apply TI.cond_false);(focus rfl);(focus (first|rfl|(simp only[z1,zn,h5];done))))|fail)
   refine TI.of ?_
   repeat (first|(with_reducible first|refine mv ?_|refine m12 rfl ?_|refine TO.nil ?_)|((with_reducible first|apply TO.ld|apply TO.mv);(repeat (focus (show _=_;first|exact k1 rfl|exact k2 rfl|(simp only[zz,y25,e_i,Nat.reduceAdd,Nat.reduceMul,Nat.reduceLeDiff,Nat.reduceEqDiff,tload,aV,aU,List.getElem?_map,h5]<;>exact rfl)|exact rfl)));(with_reducible apply TO.here))|((with_reducible apply TX.region);(focus (simp only[zl]<;>exact rfl));(focus rfl);(try dsimp only))|fail)
   obtain⟨v13,h6,hr⟩:=Option.bind_eq_some_iff.1 hr
   try dsimp only at hr
   apply TO.cal (by first|rfl|(simp only[twant,z1,z7,h5]<;>rfl)) rfl Ma (jC h6) rfl rfl rfl
   (repeat (focus (show _=_;first|exact k1 rfl|exact k2 rfl|(simp only[zz,y25,e_i,Nat.reduceAdd,Nat.reduceMul,Nat.reduceLeDiff,Nat.reduceEqDiff,shift,kill,mM,frz,Ek,view,tml,tmlc,List.length_set,h5]<;>exact rfl)|exact rfl)))
   with_reducible apply TO.here
   repeat (first|(with_reducible first|refine mv ?_|refine m12 rfl ?_|refine TO.nil ?_)|((with_reducible first|apply TO.asg);(repeat (focus (show _=_;first|exact k1 rfl|exact k2 rfl|(simp only[zz,y25,e_i,Nat.reduceAdd,Nat.reduceMul,Nat.reduceLeDiff,Nat.reduceEqDiff,h5]<;>exact rfl)|exact rfl)));(with_reducible apply TO.here))|((with_reducible apply TX.region);(focus (simp only[zl]<;>exact rfl));(focus rfl);(try dsimp only))|fail)
   refine⟨[.v (.func (.yield l) #[] #[]),.Z,.fptr true [.v (.int .i64 v2),.list 1 (v3.map e_i)] 0,.Z,.v (.int .i64 v13),.Z,.v (.func (.yield l) #[] #[]),.v (.int .i64 v5),.v (.bool v11),.agg [.v (.int .i64 v2),.list 1 (v3.map e_i)],.v (.int .i64 v5),.v (.int .i64 v13)],?_,?_⟩
   ·exact Wk.ren [] rfl .nil (by (repeat (first|exact RNs.nil|refine RNs.cons .Z ?_|refine RNs.cons (.keep rfl rfl) ?_|refine RNs.cons (.lsl rfl rfl) ?_|refine RNs.cons (.lsl rfl (by simp only[List.length_set])) ?_|refine RNs.cons (.lptr rfl) ?_|refine RNs.cons (.nil rfl) ?_|refine RNs.cons .nl ?_|refine RNs.cons (.keep (by simp only[h5]) rfl) ?_|refine RNs.cons (.tuple' ?_) ?_|refine RNs.cons (.agg' ?_) ?_)))
   repeat (first|(with_reducible first|refine mv ?_|refine m12 rfl ?_)|fail)
   cases hr
   refine⟨rfl,?_,rfl⟩
   exact Wk.ren [] rfl .nil (by (repeat (first|exact RNs.nil|refine RNs.cons .Z ?_|refine RNs.cons (.keep rfl rfl) ?_|refine RNs.cons (.lsl rfl rfl) ?_|refine RNs.cons (.lsl rfl (by simp only[List.length_set])) ?_|refine RNs.cons (.lptr rfl) ?_|refine RNs.cons (.nil rfl) ?_|refine RNs.cons .nl ?_|refine RNs.cons (.keep (by simp only[h5]) rfl) ?_|refine RNs.cons (.tuple' ?_) ?_|refine RNs.cons (.agg' ?_) ?_)))
  ·rw[if_neg (by rw[h5];exact Bool.false_ne_true)] at hr
   repeat (first|(with_reducible first|refine mv ?_|refine m12 rfl ?_)|((with_reducible apply TX.cond_true);(focus rfl);(focus (first|rfl|(simp only[z1,zn,h5];done))))|((with_reducible apply TX.cond_false);(focus rfl);(focus (first|rfl|(simp only[z1,zn,h5];done))))|((with_reducible apply TI.cond_true);(focus rfl);(focus (first|rfl|(simp only[z1,zn,h5];done))))|((with_reducible apply TI.cond_false);(focus rfl);(focus (first|rfl|(simp only[z1,zn,h5];done))))|fail)
   cases hr
   refine⟨rfl,?_,rfl⟩
   exact Wk.ren [] rfl .nil (by (repeat (first|exact RNs.nil|refine RNs.cons .Z ?_|refine RNs.cons (.keep rfl rfl) ?_|refine RNs.cons (.lsl rfl rfl) ?_|refine RNs.cons (.lsl rfl (by simp only[List.length_set])) ?_|refine RNs.cons (.lptr rfl) ?_|refine RNs.cons (.nil rfl) ?_|refine RNs.cons .nl ?_|refine RNs.cons (.keep (by simp only[h5]) rfl) ?_|refine RNs.cons (.tuple' ?_) ?_|refine RNs.cons (.agg' ?_) ?_)))
 ·intro e h;cases h
 ·try dsimp only
  repeat (first|(with_reducible first|refine mv ?_|refine m12 rfl ?_)|fail)
  cases hr
  exact⟨.inl rfl,rfl⟩
def y26:=an @ag3 <| an @ag67 <| an @cs3 <| an @cs67 <| an @ok3 <| an @ok67 <| an @zc3 <| @nD
theorem mU{v1:Int}{v2:(List Int)}{v3:Int}{v4:Int}(hr:dK v1 v2 v3=some (v4)):Spec (lim Tryz.prog) 108 [.agg [.v (.int .i64 v1),.list 1 (v2.map e_i)],.v (.int .i64 v3)] ⟨[.v (.int .i64 v4)],[]⟩:=by
 unfold dK at hr
 have T:=an y26 <| @e_i.eq_1
 apply Spec.fnM Tryz.func108 rfl
 focus (simp[Tryz.f108]<;>exact rfl)
 focus
  refine wB T (g:=?_)
  obtain⟨v5,h1,hr⟩:=bs hr
  apply TD.cal (wn T) rfl Ma (jC h1) rfl rfl rfl
  repeat exact sd T
  refine wa_ T (g:=?_)
  obtain⟨⟨v6,v7,v8⟩,h2,hr⟩:=bs hr
  try dsimp only at hr
  apply TD.cal (wn T) rfl Lw (iJ h2) rfl rfl rfl
  repeat exact sd T
  refine wa_ T (g:=?_)
  obtain⟨v13,h5,hr⟩:=bs hr
  refine TM.weak (s':=⟨.Z::.Z::.Z::.fptr true [.v (.int .i64 v3)] 0::.Z::.lptr 0 0 0::.Z::.Z::.Z::.Z::.Z::.func 123 [] [.fptr true [.v (.int .i64 v6)] 0,.fptr true [.v (.int .i64 v7),.list 1 (v8.map e_i)] 0]::.Z::.Z::.Z::.Z::.Z::.Z::.Z::[],[.var [.v (.int .i64 1)]]⟩) ?_ ?_
  ·exact wr [some 0] rfl (rv .nil rfl)
  refine TM.range (it:=fun {X}=>aG v6 v7 v8) (enc:=fun a0=>[.v (.int .i64 a0)]) h5 (fun v9=>[.var [.v (.int .i64 v9)]]) (fun v11=>[.var [.v (.int .i64 v11)]]) (fun _=>.exit 0) rfl rfl Lx eQ rfl rfl rfl (fun _=>rfl) (fun _=>.inr ⟨_,rfl⟩) ?_ ?_
  ·rintro v12 v9 r hr
   dsimp only[cG] at hr
   show TX _ _ _ ⟨.Z::.Z::.Z::.fptr true [.v (.int .i64 v3)] 0::.Z::.lptr 0 0 0::.Z::.Z::.Z::.Z::.Z::.func 123 [] [.fptr true [.v (.int .i64 v6)] 0,.fptr true [.v (.int .i64 v7),.list 1 (v8.map e_i)] 0]::.v (.int .i64 v12)::.Z::.Z::.Z::.Z::.Z::.Z::[],[.var [.v (.int .i64 v9)]]⟩ _
   refine wa_ T (g:=?_)
   refine⟨rfl,?_⟩
   repeat (first|(with_reducible first|refine mv ?_|refine m12 rfl ?_|refine TO.nil ?_)|((with_reducible first|apply TO.mv|apply TO.ld|apply TO.bin);(repeat (focus (show _=_;first|exact k1 rfl|exact k2 rfl|(simp only[zz,y26,e_i,Nat.reduceAdd,Nat.reduceMul,Nat.reduceLeDiff,Nat.reduceEqDiff,tload,aV,aU,List.getElem?_map]<;>exact rfl)|exact rfl)));(with_reducible apply TO.here))|((with_reducible apply TX.region);(focus (simp only[zl]<;>exact rfl));(focus rfl);(try dsimp only))|((with_reducible apply TX.cond_true);(focus rfl);(focus (first|rfl|(simp only[z1,zn];done))))|((with_reducible apply TX.cond_false);(focus rfl);(focus (first|rfl|(simp only[z1,zn];done))))|((with_reducible apply TM.cond_true);(focus rfl);(focus (first|rfl|(simp only[z1,zn];done))))|((with_reducible apply TM.cond_false);(focus rfl);(focus (first|rfl|(simp only[z1,zn];done))))|fail)
   rcases ifs hr with⟨h4,hr⟩|⟨h4,hr⟩
   ·repeat (first|(with_reducible first|refine mv ?_|refine m12 rfl ?_)|((with_reducible apply TX.cond_true);(focus rfl);(focus (first|rfl|(simp only[z1,zn,h4];done))))|((with_reducible apply TX.cond_false);(focus rfl);(focus (first|rfl|(simp only[z1,zn,h4];done))))|((with_reducible apply TM.cond_true);(focus rfl);(focus (first|rfl|(simp only[z1,zn,h4];done))))|((with_reducible apply TM.cond_false);(focus rfl);(focus (first|rfl|(simp only[z1,zn,h4];done))))|fail)
    cases hr
    refine⟨rfl,?_⟩
    have T:=an h4 T
    exact wk_ T [some 0] rfl (rv .nil rfl)
   ·repeat (first|(with_reducible first|refine mv ?_|refine m12 rfl ?_|refine TO.nil ?_)|((with_reducible first|apply TO.ld|apply TO.bin|apply TO.sv);(repeat (focus (show _=_;first|exact k1 rfl|exact k2 rfl|(simp only[zz,y26,e_i,Nat.reduceAdd,Nat.reduceMul,Nat.reduceLeDiff,Nat.reduceEqDiff,tload,aV,aU,List.getElem?_map,h4]<;>exact rfl)|exact rfl)));(with_reducible apply TO.here))|((with_reducible apply TX.region);(focus (simp only[zl]<;>exact rfl));(focus rfl);(try dsimp only))|((with_reducible apply TX.cond_true);(focus rfl);(focus (first|rfl|(simp only[z1,zn,h4];done))))|((with_reducible apply TX.cond_false);(focus rfl);(focus (first|rfl|(simp only[z1,zn,h4];done))))|((with_reducible apply TM.cond_true);(focus rfl);(focus (first|rfl|(simp only[z1,zn,h4];done))))|((with_reducible apply TM.cond_false);(focus rfl);(focus (first|rfl|(simp only[z1,zn,h4];done))))|fail)
    cases hr
    refine⟨rfl,?_⟩
    have T:=an h4 T
    exact wk_ T [some 0] rfl (rv .nil rfl)
  ·rcases v13 with v14|v15
   ·try dsimp only at hr
    try dsimp only
    refine wA T (g:=?_)
    cases hr
    refine⟨.inr rfl,_,(ry T),?_⟩
    exact wr [] rfl .nil
   ·try dsimp only at hr
    try dsimp only
    refine wA T (g:=?_)
    cases hr
    refine⟨.inr rfl,_,(ry T),?_⟩
    exact wr [] rfl .nil
 rfl
def y27:=an @ag67 <| an @cs67 <| @ok67
theorem lC{v1:Int}{v2:(List Int)}{v3:Bool}(hr:dW v1 v2=some (v3)):Spec (lim Tryz.prog) 76 [.agg [.v (.int .i64 v1),.list 1 (v2.map e_i)]] ⟨[.v (.bool v3)],[]⟩:=by
 unfold dW at hr
 have T:=an y27 <| @e_i.eq_1
 apply Spec.fn Tryz.func76 rfl
 focus (simp[Tryz.f76]<;>exact rfl)
 focus
  refine wB T (g:=?_)
  obtain⟨v4,h1,hr⟩:=bs hr
  apply TD.cal (wn T) rfl Tb (mU h1) rfl rfl rfl
  repeat exact sd T
  refine wA T (g:=?_)
  obtain⟨v5,h2,hr⟩:=bs hr
  apply TD.cal (wn T) rfl zM (bC h2) rfl rfl rfl
  repeat exact sd T
  refine wa_ T (g:=?_)
  cases hr
  refine⟨.inr rfl,_,(ry T),?_⟩
  exact wr [] rfl .nil
 rfl
def y28:=an @ag67 <| an @cs67 <| @ok67
theorem mJ{v1:Int}{v2:(List Int)}{v3:Int}(hr:cZ v1 v2=some (v3)):Spec (lim Tryz.prog) 34 [.agg [.v (.int .i64 v1),.list 1 (v2.map e_i)]] ⟨[.v (.int .i64 v3)],[]⟩:=by
 unfold cZ at hr
 have T:=an y28 <| @e_i.eq_1
 apply Spec.fn Tryz.func34 rfl
 focus (simp[Tryz.f34]<;>exact rfl)
 focus
  refine wB T (g:=?_)
  obtain⟨v4,h1,hr⟩:=bs hr
  apply TO.cal (wn T) rfl Vp (lC h1) rfl rfl rfl
  repeat exact sd T
  refine wa_ T (g:=?_)
  apply TO.pop1 (wn T) (dF rfl)
  repeat exact sd T
  refine wa_ T (g:=?_)
  obtain⟨⟨v5,v6⟩,h2,hr⟩:=bs hr
  try dsimp only at hr
  apply TO.cal (wn T) rfl iF (aF h2) rfl rfl rfl
  repeat exact sd T
  refine wa_ T (g:=?_)
  obtain⟨v7,h3,hr⟩:=bs hr
  apply TO.cal (wn T) rfl nJ (aH h3) rfl rfl rfl
  repeat exact sd T
  refine wa_ T (g:=?_)
  cases hr
  refine⟨.inr rfl,_,(ry T),?_⟩
  exact wr [] rfl .nil
 rfl
def y29:=an @ag31 <| an @ag67 <| an @cs67 <| an @ok67 <| @so31
theorem mY{v1:(List (Nat×Nat))}{v2:Int}{v3:(List Int)}{v4:Int}(hr:dQ v1 v2 v3=some (v4)):Spec (lim Tryz.prog) 35 [.fptr true [.list 1 (v1.map e_c)] 0,.fptr true [.v (.int .i64 v2),.list 1 (v3.map e_i)] 0] ⟨[.v (.int .i64 v4)],[]⟩:=by
 unfold dQ at hr
 have T:=an y29 <| an @e_c.eq_1 <| @e_i.eq_1
 apply Spec.fn Tryz.func35 rfl
 focus (simp[Tryz.f35]<;>exact rfl)
 focus
  refine wC T (g:=?_)
  obtain⟨v5,h1,hr⟩:=bs hr
  apply TD.cal (wn T) rfl zM (bC h1) rfl rfl rfl
  repeat exact sd T
  refine wa_ T (g:=?_)
  obtain⟨⟨v6,v7⟩,h2,hr⟩:=bs hr
  try dsimp only at hr
  apply TD.cal (wn T) rfl iF (aF h2) rfl rfl rfl
  repeat exact sd T
  refine wa_ T (g:=?_)
  obtain⟨v8,h3,hr⟩:=bs hr
  apply TD.cal (wn T) rfl nJ (aH h3) rfl rfl rfl
  repeat exact sd T
  refine wa_ T (g:=?_)
  cases hr
  refine⟨.inr rfl,_,(ry T),?_⟩
  exact wr [] rfl .nil
 rfl
end Go.Rex
namespace Go.Rex
open Go.Proofs
open Go Go.Rex Go.RowKit
set_option maxRecDepth 100000
set_option maxHeartbeats 1000000
def y30:=an @ag70 <| an @cs70 <| an @ok70 <| an @so114 <| an @bM <| an @nD <| an @Ap <| an @Hx <| @Sk
theorem nS{v1:(List (Nat×Nat))}{v2:Int}{v3:(List Int)}{v4:Int}{v5:Int}{v6:(List Int)}{v7:Int}{v8:(List Int)}{v9:(List (Nat×Nat))}{v10:Int}{v11:(List Int)}{v12:Int}(hr:cN v1 v2 v3 v4 v5 v6 v7 v8 v9 v10 v11=some (v12)):Spec (lim Tryz.prog) 30 [.list 1 [[.func 79 [] [.fptr true [.list 1 (v1.map e_c)] 0]],[.func 32 [.agg [.v (.int .i64 v2),.list 1 (v3.map e_i)]] []],[.func 84 [] [.fptr true [.v (.int .i64 v4)] 0,.fptr true [.v (.int .i64 v5),.list 1 (v6.map e_i)] 0]],[.func 34 [.agg [.v (.int .i64 v7),.list 1 (v8.map e_i)]] []],[.func 35 [] [.fptr true [.list 1 (v9.map e_c)] 0,.fptr true [.v (.int .i64 v10),.list 1 (v11.map e_i)] 0]]]] ⟨[.v (.int .i64 v12)],[]⟩:=by
 unfold cN at hr
 have T:=an y30 <| an @e_c.eq_1 <| @e_i.eq_1
 apply Spec.fn Tryz.func30 rfl
 focus (simp[Tryz.f30]<;>exact rfl)
 focus
  refine wc_ T (g:=?_)
  refine TX.unroll ?_
  repeat (first|(with_reducible first|refine mv ?_|refine m12 rfl ?_|refine TO.nil ?_)|((with_reducible first|apply TO.bin|apply TO.ia|apply TO.ld|apply TO.asg|apply TO.mv);(repeat (focus (show _=_;first|exact k1 rfl|exact k2 rfl|(simp only[zz,y30,e_c,e_i,Nat.reduceAdd,Nat.reduceMul,Nat.reduceLeDiff,Nat.reduceEqDiff,aA,z5,Int.reduceToNat,Int.reduceLE,Int.reduceLT,Int.cast_ofNat_Int,tload,aV,aU,List.getElem?_map]<;>exact rfl)|exact rfl)));(with_reducible apply TO.here))|((with_reducible apply TX.region);(focus (simp only[zl]<;>exact rfl));(focus rfl);(try dsimp only))|((with_reducible apply TX.cond_true);(focus rfl);(focus (first|rfl|(simp only[z1,zn];done))))|((with_reducible apply TX.cond_false);(focus rfl);(focus (first|rfl|(simp only[z1,zn];done))))|fail)
  obtain⟨v13,h1,hr⟩:=bs hr
  apply TO.cal (wn T) rfl Wn (nW h1) rfl rfl rfl
  repeat exact sd T
  refine wa_ T (g:=?_)
  rcases ifs hr with⟨h2,hr⟩|⟨h2,hr⟩
  ·have T:=an h2 T
   refine wa_ T (g:=?_)
   cases hr
   refine⟨.inr rfl,_,(ry T),?_⟩
   exact wk_ T [] rfl .nil
  ·have T:=an h2 T
   refine wa_ T (g:=?_)
   refine TX.unroll ?_
   repeat (first|(with_reducible first|refine mv ?_|refine m12 rfl ?_|refine TO.nil ?_)|((with_reducible first|apply TO.bin|apply TO.ia|apply TO.ld|apply TO.asg|apply TO.mv);(repeat (focus (show _=_;first|exact k1 rfl|exact k2 rfl|(simp only[zz,y30,e_c,e_i,Nat.reduceAdd,Nat.reduceMul,Nat.reduceLeDiff,Nat.reduceEqDiff,aA,z5,Int.reduceToNat,Int.reduceLE,Int.reduceLT,Int.cast_ofNat_Int,tload,aV,aU,List.getElem?_map,h2]<;>exact rfl)|exact rfl)));(with_reducible apply TO.here))|((with_reducible apply TX.region);(focus (simp only[zl]<;>exact rfl));(focus rfl);(try dsimp only))|((with_reducible apply TX.cond_true);(focus rfl);(focus (first|rfl|(simp only[z1,zn,h2];done))))|((with_reducible apply TX.cond_false);(focus rfl);(focus (first|rfl|(simp only[z1,zn,h2];done))))|fail)
   obtain⟨v14,h3,hr⟩:=bs hr
   apply TO.cal (wn T) rfl Vx (nR h3) rfl rfl rfl
   repeat exact sd T
   refine wa_ T (g:=?_)
   rcases ifs hr with⟨h4,hr⟩|⟨h4,hr⟩
   ·have T:=an h4 T
    refine wa_ T (g:=?_)
    cases hr
    refine⟨.inr rfl,_,(ry T),?_⟩
    exact wk_ T [] rfl .nil
   ·have T:=an h4 T
    refine wa_ T (g:=?_)
    refine TX.unroll ?_
    repeat (first|(with_reducible first|refine mv ?_|refine m12 rfl ?_|refine TO.nil ?_)|((with_reducible first|apply TO.bin|apply TO.ia|apply TO.ld|apply TO.asg|apply TO.mv);(repeat (focus (show _=_;first|exact k1 rfl|exact k2 rfl|(simp only[zz,y30,e_c,e_i,Nat.reduceAdd,Nat.reduceMul,Nat.reduceLeDiff,Nat.reduceEqDiff,aA,z5,Int.reduceToNat,Int.reduceLE,Int.reduceLT,Int.cast_ofNat_Int,tload,aV,aU,List.getElem?_map,h2,h4]<;>exact rfl)|exact rfl)));(with_reducible apply TO.here))|((with_reducible apply TX.region);(focus (simp only[zl]<;>exact rfl));(focus rfl);(try dsimp only))|((with_reducible apply TX.cond_true);(focus rfl);(focus (first|rfl|(simp only[z1,zn,h2,h4];done))))|((with_reducible apply TX.cond_false);(focus rfl);(focus (first|rfl|(simp only[z1,zn,h2,h4];done))))|fail)
    obtain⟨v15,h5,hr⟩:=bs hr
    apply TO.cal (wn T) rfl Wl (iY h5) rfl rfl rfl
    repeat exact sd T
    refine wa_ T (g:=?_)
    rcases ifs hr with⟨h6,hr⟩|⟨h6,hr⟩
    ·have T:=an h6 T
     refine wa_ T (g:=?_)
     cases hr
     refine⟨.inr rfl,_,(ry T),?_⟩
     exact wk_ T [] rfl .nil
    ·have T:=an h6 T
     refine wa_ T (g:=?_)
     refine TX.unroll ?_
     repeat (first|(with_reducible first|refine mv ?_|refine m12 rfl ?_|refine TO.nil ?_)|((with_reducible first|apply TO.bin|apply TO.ia|apply TO.ld|apply TO.asg|apply TO.mv);(repeat (focus (show _=_;first|exact k1 rfl|exact k2 rfl|(simp only[zz,y30,e_c,e_i,Nat.reduceAdd,Nat.reduceMul,Nat.reduceLeDiff,Nat.reduceEqDiff,aA,z5,Int.reduceToNat,Int.reduceLE,Int.reduceLT,Int.cast_ofNat_Int,tload,aV,aU,List.getElem?_map,h2,h4,h6]<;>exact rfl)|exact rfl)));(with_reducible apply TO.here))|((with_reducible apply TX.region);(focus (simp only[zl]<;>exact rfl));(focus rfl);(try dsimp only))|((with_reducible apply TX.cond_true);(focus rfl);(focus (first|rfl|(simp only[z1,zn,h2,h4,h6];done))))|((with_reducible apply TX.cond_false);(focus rfl);(focus (first|rfl|(simp only[z1,zn,h2,h4,h6];done))))|fail)
     obtain⟨v16,h7,hr⟩:=bs hr
     apply TO.cal (wn T) rfl Wv (mJ h7) rfl rfl rfl
     repeat exact sd T
     refine wa_ T (g:=?_)
     rcases ifs hr with⟨h8,hr⟩|⟨h8,hr⟩
     ·have T:=an h8 T
      refine wa_ T (g:=?_)
      cases hr
      refine⟨.inr rfl,_,(ry T),?_⟩
      exact wk_ T [] rfl .nil
     ·have T:=an h8 T
      refine wa_ T (g:=?_)
      refine TX.unroll ?_
      repeat (first|(with_reducible first|refine mv ?_|refine m12 rfl ?_|refine TO.nil ?_)|((with_reducible first|apply TO.bin|apply TO.ia|apply TO.ld|apply TO.asg|apply TO.mv);(repeat (focus (show _=_;first|exact k1 rfl|exact k2 rfl|(simp only[zz,y30,e_c,e_i,Nat.reduceAdd,Nat.reduceMul,Nat.reduceLeDiff,Nat.reduceEqDiff,aA,z5,Int.reduceToNat,Int.reduceLE,Int.reduceLT,Int.cast_ofNat_Int,tload,aV,aU,List.getElem?_map,h2,h4,h6,h8]<;>exact rfl)|exact rfl)));(with_reducible apply TO.here))|((with_reducible apply TX.region);(focus (simp only[zl]<;>exact rfl));(focus rfl);(try dsimp only))|((with_reducible apply TX.cond_true);(focus rfl);(focus (first|rfl|(simp only[z1,zn,h2,h4,h6,h8];done))))|((with_reducible apply TX.cond_false);(focus rfl);(focus (first|rfl|(simp only[z1,zn,h2,h4,h6,h8];done))))|fail)
      obtain⟨v17,h9,hr⟩:=bs hr
      apply TO.cal (wn T) rfl Xj (mY h9) rfl rfl rfl
      repeat exact sd T
      refine wa_ T (g:=?_)
      rcases ifs hr with⟨h10,hr⟩|⟨h10,hr⟩
      ·have T:=an h10 T
       refine wa_ T (g:=?_)
       cases hr
       refine⟨.inr rfl,_,(ry T),?_⟩
       exact wk_ T [] rfl .nil
      ·have T:=an h10 T
       refine wa_ T (g:=?_)
       refine TX.unroll ?_
       refine wa_ T (g:=?_)
       cases hr
       refine⟨.inr rfl,_,(ry T),?_⟩
       exact wk_ T [] rfl .nil
 rfl
end Go.Rex
namespace Go.Rex
open Go.Proofs
open Go Go.Rex Go.RowKit
set_option maxRecDepth 100000
set_option maxHeartbeats 200000
def y31:=an @ag24 <| an @ag3 <| an @ag67 <| an @by3 <| an @cs24 <| an @cs3 <| an @cs67 <| an @ni24 <| an @ok24 <| an @ok67 <| an @so24 <| an @zc24 <| @zc3
theorem nX{v1:Int}{v2:(List Int)}{v3:Int}{v4:Int}{v5:(List Int)}(hr:eH v1 v2 v3 v4=some (v5)):Spec (lim Tryz.prog) 74 [.agg [.v (.int .i64 v1),.list 1 (v2.map e_i)],.v (.int .i64 v3),.v (.int .i64 v4)] ⟨[.lsl 0 0 v5.length],[.rows 1 (v5.map e_i)]⟩:=by
 unfold eH at hr
 have T:=an y31 <| @e_i.eq_1
 apply Spec.fnM Tryz.func74 rfl
 focus (simp[Tryz.f74]<;>exact rfl)
 focus
  refine wB T (g:=?_)
  obtain⟨⟨v6,v7,v8⟩,h1,hr⟩:=bs hr
  try dsimp only at hr
  apply TO.cal (wn T) rfl Lw (iJ h1) rfl rfl rfl
  repeat exact sd T
  refine wa_ T (g:=?_)
  obtain⟨v15,h6,hr⟩:=bs hr
  refine TM.weak (s':=⟨.Z::.Z::.Z::.Z::.Z::.fptr true [.v (.int .i64 v4)] 0::.Z::.lptr 0 0 0::.Z::.Z::.Z::.func 123 [] [.fptr true [.v (.int .i64 v6)] 0,.fptr true [.v (.int .i64 v7),.list 1 (v8.map e_i)] 0]::.Z::.Z::.Z::.Z::.Z::.Z::.Z::.Z::.Z::.Z::.Z::[],[.var [.lsl 1 0 ([]:List Int).length],.rows 1 (([]:List Int).map e_i)]⟩) ?_ ?_
  ·exact wr [some 0,none] rfl (rv (.virt .nil) rfl)
  refine TM.range (it:=fun {X}=>aG v6 v7 v8) (enc:=fun a0=>[.v (.int .i64 a0)]) h6 (fun v9=>[.var [.lsl 1 0 v9.length],.rows 1 (v9.map e_i)]) (fun v12=>[.var [.lsl 1 0 v12.length],.rows 1 (v12.map e_i)]) (fun _=>.exit 0) rfl rfl Lx eQ rfl rfl rfl (fun _=>rfl) (fun _=>.inr ⟨_,rfl⟩) ?_ ?_
  ·rintro v13 v9 r hr
   dsimp only[cY] at hr
   show TX _ _ _ ⟨.Z::.Z::.Z::.Z::.Z::.fptr true [.v (.int .i64 v4)] 0::.Z::.lptr 0 0 0::.Z::.Z::.Z::.func 123 [] [.fptr true [.v (.int .i64 v6)] 0,.fptr true [.v (.int .i64 v7),.list 1 (v8.map e_i)] 0]::.v (.int .i64 v13)::.Z::.Z::.Z::.Z::.Z::.Z::.Z::.Z::.Z::.Z::[],[.var [.lsl 1 0 v9.length],.rows 1 (v9.map e_i)]⟩ _
   refine wa_ T (g:=?_)
   refine⟨rfl,?_⟩
   repeat (first|(with_reducible first|refine mv ?_|refine m12 rfl ?_|refine TO.nil ?_)|((with_reducible first|apply TO.ld|apply TO.len|apply TO.bin);(repeat (focus (show _=_;first|exact k1 rfl|exact k2 rfl|(simp only[zz,y31,e_i,Nat.reduceAdd,Nat.reduceMul,Nat.reduceLeDiff,Nat.reduceEqDiff,tload,aV,aU,List.getElem?_map,tlen]<;>exact rfl)|exact rfl)));(with_reducible apply TO.here))|((with_reducible apply TX.region);(focus (simp only[zl]<;>exact rfl));(focus rfl);(try dsimp only))|((with_reducible apply TX.cond_true);(focus rfl);(focus (first|rfl|(simp only[z1,zn];done))))|((with_reducible apply TX.cond_false);(focus rfl);(focus (first|rfl|(simp only[z1,zn];done))))|((with_reducible apply TM.cond_true);(focus rfl);(focus (first|rfl|(simp only[z1,zn];done))))|((with_reducible apply TM.cond_false);(focus rfl);(focus (first|rfl|(simp only[z1,zn];done))))|fail)
   rcases ifs hr with⟨h4,hr⟩|⟨h4,hr⟩
   ·repeat (first|(with_reducible first|refine mv ?_|refine m12 rfl ?_)|((with_reducible apply TX.cond_true);(focus rfl);(focus (first|rfl|(simp only[z1,zn,h4];done))))|((with_reducible apply TX.cond_false);(focus rfl);(focus (first|rfl|(simp only[z1,zn,h4];done))))|((with_reducible apply TM.cond_true);(focus rfl);(focus (first|rfl|(simp only[z1,zn,h4];done))))|((with_reducible apply TM.cond_false);(focus rfl);(focus (first|rfl|(simp only[z1,zn,h4];done))))|fail)
    cases hr
    refine⟨rfl,?_⟩
    have T:=an h4 T
    exact wk_ T [some 0,some 1] rfl (rv (.rows .nil rfl rfl) rfl)
   ·repeat (first|(with_reducible first|refine mv ?_|refine m12 rfl ?_|refine TO.nil ?_)|((with_reducible first|apply TO.ld|apply TO.mv);(repeat (focus (show _=_;first|exact k1 rfl|exact k2 rfl|(simp only[zz,y31,e_i,Nat.reduceAdd,Nat.reduceMul,Nat.reduceLeDiff,Nat.reduceEqDiff,tload,aV,aU,List.getElem?_map,h4]<;>exact rfl)|exact rfl)));(with_reducible apply TO.here))|((with_reducible apply TX.region);(focus (simp only[zl]<;>exact rfl));(focus rfl);(try dsimp only))|((with_reducible apply TX.cond_true);(focus rfl);(focus (first|rfl|(simp only[z1,zn,h4];done))))|((with_reducible apply TX.cond_false);(focus rfl);(focus (first|rfl|(simp only[z1,zn,h4];done))))|((with_reducible apply TM.cond_true);(focus rfl);(focus (first|rfl|(simp only[z1,zn,h4];done))))|((with_reducible apply TM.cond_false);(focus rfl);(focus (first|rfl|(simp only[z1,zn,h4];done))))|fail)
    have T:=an h4 T
    apply TO.pop1 (wn T) (rH rfl rfl (by decide))
    repeat exact sd T
    refine wa_ T (g:=?_)
    apply TO.bm e_i ([(tH .and .i64 v13 1)]:List Int) (wn T) rfl (by simp only[zz,y31,e_i,Nat.reduceAdd,Nat.reduceMul,Nat.reduceLeDiff,Nat.reduceEqDiff,tslice,tparts,h4];exact rfl) rfl
    repeat exact sd T
    refine wa_ T (g:=?_)
    obtain⟨v14,h5,hr⟩:=bs hr
    apply TO.ap (f:=e_i) (xs:=v9) (ys:=([(tH .and .i64 v13 1)]:List Int)) (wn T) rfl rfl (by first|rfl|simp only[List.length_set]) rfl rfl so24 ni24 zc3 rfl (by rw[by3];exact h5) (fun _=>⟨rfl,rfl,rfl⟩)
    repeat exact sd T
    refine wa_ T (g:=?_)
    cases hr
    refine⟨rfl,?_⟩
    exact wk_ T [some 0,some 1] rfl (rv (.rows .nil rfl rfl) rfl)
  ·rcases v15 with v16|v17
   ·try dsimp only at hr
    try dsimp only
    refine wA T (g:=?_)
    cases hr
    refine⟨.inr rfl,_,(ry T),?_⟩
    exact wr [some 1] rfl (.rows .nil rfl rfl)
   ·try dsimp only at hr
    try dsimp only
    refine wA T (g:=?_)
    cases hr
    refine⟨.inr rfl,_,(ry T),?_⟩
    exact wr [some 1] rfl (.rows .nil rfl rfl)
 rfl
def y32:=an @ag3 <| an @ag67 <| an @cs3 <| an @cs67 <| an @ok3 <| an @ok67 <| an @so24 <| @bM
theorem nN{v1:Int}{v2:(List Int)}{v3:Int}{v4:(List Int)}(hr:dX v1 v2 v3=some (v4)):Spec (lim Tryz.prog) 67 [.agg [.v (.int .i64 v1),.list 1 (v2.map e_i)],.v (.int .i64 v3)] ⟨[.lsl 0 0 v4.length],[.rows 1 (v4.map e_i)]⟩:=by
 unfold dX at hr
 have T:=an y32 <| @e_i.eq_1
 apply Spec.fn Tryz.func67 rfl
 focus (simp[Tryz.f67]<;>exact rfl)
 focus
  refine wB T (g:=?_)
  obtain⟨v5,h1,hr⟩:=bs hr
  apply TD.cal (wn T) rfl zM (bC h1) rfl rfl rfl
  repeat exact sd T
  refine wa_ T (g:=?_)
  obtain⟨v6,h2,hr⟩:=bs hr
  apply TD.cal (wn T) rfl Wd (nX h2) rfl rfl rfl
  repeat exact sd T
  refine wc_ T (g:=?_)
  obtain⟨v12,h7,hr⟩:=bs hr
  refine TX.loopE (step:=cS v6) (x:=(v6,0)) h7 (fun (v7,v8)=>⟨.Z::.Z::.Z::.Z::.Z::.lsl 0 0 v7.length::.Z::.Z::.Z::.Z::.Z::.Z::.Z::.lsl 0 0 v7.length::.v (.int .i64 (v6.length:Int))::.v (.int .i64 v8)::.Z::.Z::.Z::.Z::.Z::.Z::.Z::.Z::.Z::.Z::.Z::.Z::[],[.rows 1 (v7.map e_i)]⟩) (fun v10=>(.exit 0,⟨.Z::.Z::.Z::.Z::.Z::.lsl 0 0 v10.length::.Z::.Z::.Z::.Z::.Z::.Z::.Z::.Z::.Z::.Z::.Z::.Z::.Z::.Z::.Z::.Z::.Z::.Z::.Z::.Z::.Z::.Z::[],[.rows 1 (v10.map e_i)]⟩)) ?_ ?_ ?_ ?_
  ·rintro⟨v7,v8⟩ v0 hr
   dsimp only[cS] at hr
   try dsimp only
   refine wa_ T (g:=?_)
   rcases ifs hr with⟨h5,hr⟩|⟨h5,hr⟩
   ·have T:=an h5 T
    refine wa_ T (g:=?_)
    obtain⟨v11,h6,hr⟩:=bs hr
    have h6m:=bK (f:=e_i) h6
    have h6l:=bZ h6
    try simp only[List.length_set] at h6l
    have h6a:=cB h6
    have T:=an h6m T
    have T:=an h6l T
    have T:=an h6a T
    refine wA T (g:=?_)
    apply TO.sr e_i v7 v11 (IntKind.i64.wrap (1-(IntKind.i64.wrap (2*v11)))) h6a (wn T) rfl rfl rfl rfl rfl ok3 (by rw[cs3];rfl) rfl rfl rfl rfl
    repeat exact sd T
    refine wa_ T (g:=?_)
    cases hr
    refine⟨rfl,?_⟩
    exact wk_ T [some 0] rfl (.rows .nil rfl rfl)
   ·have T:=an h5 T
    refine wa_ T (g:=?_)
    cases hr
    refine⟨rfl,?_⟩
    exact wk_ T [some 0] rfl (.rows .nil rfl rfl)
  ·intro e h;cases h
  ·try dsimp only
   refine wa_ T (g:=?_)
   cases hr
   refine⟨.inr rfl,_,(ry T),?_⟩
   exact wr [some 0] rfl (.rows .nil rfl rfl)
  ·try dsimp only
   exact wr [some 0] rfl (.rows .nil rfl rfl)
 rfl
def y33:=an @ag67 <| an @cs24 <| an @cs67 <| an @ok24 <| an @ok67 <| @zc24
theorem mZ{v1:Int}{v2:(List Int)}{v3:Int}{v4:(List Int)}(hr:cC v1 v2 v3=some (v4)):Spec (lim Tryz.prog) 38 [.agg [.v (.int .i64 v1),.list 1 (v2.map e_i)],.v (.int .i64 v3)] ⟨[.func 86 [] [.fptr true [.list 1 (v4.map e_i)] 0]],[]⟩:=by
 unfold cC at hr
 have T:=an y33 <| @e_i.eq_1
 apply Spec.fn Tryz.func38 rfl
 focus (simp[Tryz.f38]<;>exact rfl)
 focus
  refine wB T (g:=?_)
  obtain⟨v5,h1,hr⟩:=bs hr
  apply TO.cal (wn T) rfl Wz (nN h1) rfl rfl rfl
  repeat exact sd T
  refine wa_ T (g:=?_)
  apply TO.frz 0 rfl rfl
  repeat exact sd T
  refine wa_ T (g:=?_)
  apply TO.frz 1 rfl rfl
  repeat exact sd T
  refine wa_ T (g:=?_)
  cases hr
  refine⟨.inr rfl,_,(ry T),?_⟩
  exact wr [] rfl .nil
 rfl
def y34:=an @ag108 <| an @cs108 <| an @ok108 <| an @st108 <| an @un3 <| an @un44 <| @zc108
theorem sL{v1:Nat}{v2:Nat}{v3:Int}{v4:Int}(hr:gD v1 v2=some (v3,v4)):Spec (lim Tryz.prog) 89 [.v (.complex .f32 v1 v2)] ⟨[.agg [.v (.int .i64 v3),.v (.int .i64 v4)]],[]⟩:=by
 unfold gD at hr
 have T:=y34
 apply Spec.fn Tryz.func89 rfl
 focus (simp[Tryz.f89]<;>exact rfl)
 focus
  refine wa_ T (g:=?_)
  apply TO.pop1 (wn T) (oS rfl)
  repeat exact sd T
  refine wa_ T (g:=?_)
  obtain⟨v5,h1,hr⟩:=bs hr
  apply TO.pop1 (wn T) (jF un44 un3 rfl h1)
  repeat exact sd T
  refine wa_ T (g:=?_)
  apply TO.pop1 (wn T) (oX rfl)
  repeat exact sd T
  refine wa_ T (g:=?_)
  obtain⟨v6,h2,hr⟩:=bs hr
  apply TO.pop1 (wn T) (jF un44 un3 rfl h2)
  repeat exact sd T
  refine wa_ T (g:=?_)
  cases hr
  refine⟨.inr rfl,_,(ry T),?_⟩
  exact wr [] rfl .nil
 rfl
def y35:=an @ag84 <| an @by108 <| an @cs108 <| an @cs84 <| an @ni77 <| an @ok84 <| an @so31 <| an @so77 <| an @zc108 <| @bM
theorem rC{v1:(List (Nat×Nat))}{v2:(List (Int×Int))}(hr:aZ v1=some (v2)):Spec (lim Tryz.prog) 40 [.list 1 (v1.map e_c)] ⟨[.lsl 0 0 v2.length],[.rows 2 (v2.map e_ii)]⟩:=by
 unfold aZ at hr
 have T:=an y35 <| an @e_c.eq_1 <| @e_ii.eq_1
 apply Spec.fn Tryz.func40 rfl
 focus (simp[Tryz.f40]<;>exact rfl)
 focus
  refine wc_ T (g:=?_)
  apply TX.vt (α:=(Int×Int)) e_ii 3 2 rfl
  repeat exact sd T
  with_reducible apply TX.here
  refine wa_ T (g:=?_)
  obtain⟨v16,h9,hr⟩:=bs hr
  refine TX.loopE (step:=bW v1) (x:=(([]:List (Int×Int)),0)) h9 (fun (v3,v4)=>⟨.Z::.Z::.Z::.lsl 0 0 v3.length::.Z::.Z::.list 1 (v1.map e_c)::.v (.int .i64 (v1.length:Int))::.v (.int .i64 v4)::.Z::.Z::.Z::.Z::.Z::.Z::.Z::.Z::.Z::.Z::[],[.rows 2 (v3.map e_ii)]⟩) (fun v10=>(.exit 0,⟨.Z::.Z::.Z::.lsl 0 0 v10.length::.Z::.Z::.Z::.Z::.Z::.Z::.Z::.Z::.Z::.Z::.Z::.Z::.Z::.Z::.Z::[],[.rows 2 (v10.map e_ii)]⟩)) ?_ ?_ ?_ ?_
  ·rintro⟨v3,v4⟩ v0 hr
   dsimp only[bW] at hr
   try dsimp only
   refine wa_ T (g:=?_)
   rcases ifs hr with⟨h5,hr⟩|⟨h5,hr⟩
   ·have T:=an h5 T
    refine wa_ T (g:=?_)
    obtain⟨⟨v11,v12⟩,h6,hr⟩:=bs hr
    try dsimp only at hr
    have h6m:=bK (f:=e_c) h6
    have h6l:=bZ h6
    try simp only[List.length_set] at h6l
    have h6a:=cB h6
    have T:=an h6m T
    have T:=an h6l T
    have T:=an h6a T
    refine wA T (g:=?_)
    obtain⟨⟨v13,v14⟩,h7,hr⟩:=bs hr
    try dsimp only at hr
    apply TO.cal (wn T) rfl Ve (sL h7) rfl rfl rfl
    repeat exact sd T
    refine wa_ T (g:=?_)
    apply TO.bm e_ii ([(v13,v14)]:List (Int×Int)) (wn T) rfl (by simp only[zz,y35,e_c,e_ii,Nat.reduceAdd,Nat.reduceMul,Nat.reduceLeDiff,Nat.reduceEqDiff,tslice,tparts,h5,h6m,h6l,h6a];exact rfl) rfl
    repeat exact sd T
    refine wa_ T (g:=?_)
    obtain⟨v15,h8,hr⟩:=bs hr
    apply TO.ap (f:=e_ii) (xs:=v3) (ys:=([(v13,v14)]:List (Int×Int))) (wn T) rfl rfl (by first|rfl|simp only[List.length_set]) rfl rfl so77 ni77 zc108 rfl (by rw[by108];exact h8) (fun _=>⟨rfl,rfl,rfl⟩)
    repeat exact sd T
    refine wa_ T (g:=?_)
    cases hr
    refine⟨rfl,?_⟩
    exact wk_ T [some 0] rfl (.rows .nil rfl rfl)
   ·have T:=an h5 T
    refine wa_ T (g:=?_)
    cases hr
    refine⟨rfl,?_⟩
    exact wk_ T [some 0] rfl (.rows .nil rfl rfl)
  ·intro e h;cases h
  ·try dsimp only
   refine wa_ T (g:=?_)
   cases hr
   refine⟨.inr rfl,_,(ry T),?_⟩
   exact wr [some 0] rfl (.rows .nil rfl rfl)
  ·try dsimp only
   exact wr [some 0] rfl (.rows .nil rfl rfl)
 rfl
theorem uK{v1:Int}{v2:Int}{v3:Int}(hr:jB v1 v2=some (v3)):Spec (lim Tryz.prog) 59 [.v (.int .i64 v1),.v (.int .i64 v2)] ⟨[.v (.int .i64 v3)],[]⟩:=by
 unfold jB at hr
 have T:=trivial
 apply Spec.fn Tryz.func59 rfl
 focus (simp[Tryz.f59]<;>exact rfl)
 focus
  refine wa_ T (g:=?_)
  by_cases h1:v2=0
  ·rw[if_pos h1] at hr
   cases hr
  ·rw[if_neg h1] at hr
   have T:=an h1 T
   refine wa_ T (g:=?_)
   cases hr
   refine⟨.inr rfl,_,(ry T),?_⟩
   exact wr [] rfl .nil
 rfl
def y36:=an @ag24 <| an @ag3 <| an @cs3 <| an @ok3 <| @so24
theorem jJ{v1:Int}{v2:(List Int)}{v3:Int}(hr:bF v1 v2=some (v3)):Spec (lim Tryz.prog) 86 [.v (.int .i64 v1),.fptr true [.list 1 (v2.map e_i)] 0] ⟨[.v (.int .i64 v3)],[]⟩:=by
 unfold bF at hr
 have T:=an y36 <| @e_i.eq_1
 apply Spec.fn Tryz.func86 rfl
 focus (simp[Tryz.f86]<;>exact rfl)
 focus
  refine wC T (g:=?_)
  obtain⟨v4,h1,hr⟩:=bs hr
  apply TD.cal (wn T) rfl Vs (uK h1) rfl rfl rfl
  repeat exact sd T
  refine wa_ T (g:=?_)
  obtain⟨v5,h2,hr⟩:=bs hr
  have T:=an (gx e_i h2) T
  refine wA T (g:=?_)
  cases hr
  refine⟨.inr rfl,_,(ry T),?_⟩
  exact wr [] rfl .nil
 rfl
def y37:=@ag75
theorem mR{v1:Int}{v2:Int}{v3:(List Int)}{v4:Int}(hr:dL v1 v2 v3=some (v4)):Spec (lim Tryz.prog) 41 [.v (.int .i64 v1),.v (.int .i64 v2),.fptr true [.func 86 [] [.fptr true [.list 1 (v3.map e_i)] 0]] 0] ⟨[.v (.int .i64 v4)],[]⟩:=by
 unfold dL at hr
 have T:=an y37 <| @e_i.eq_1
 apply Spec.fn Tryz.func41 rfl
 focus (simp[Tryz.f41]<;>exact rfl)
 focus
  refine wA T (g:=?_)
  obtain⟨v5,h1,hr⟩:=bs hr
  apply TO.cal (wn T) rfl Wu (jJ h1) rfl rfl rfl
  repeat exact sd T
  refine wa_ T (g:=?_)
  cases hr
  refine⟨.inr rfl,_,(ry T),?_⟩
  exact wr [] rfl .nil
 rfl
def y38:=an @ag108 <| an @ag3 <| an @cs108 <| an @uF <| an @uP <| an @ok108 <| an @st108 <| @zc108
theorem mP{v1:Int}{v2:Int}{v3:Int}{v4:Int}{v5:Int}(hr:dH v1 v2 v3=some (v4,v5)):Spec (lim Tryz.prog) 88 [.agg [.v (.int .i64 v1),.v (.int .i64 v2)],.v (.int .i64 v3)] ⟨[.agg [.v (.int .i64 v4),.v (.int .i64 v5)]],[]⟩:=by
 unfold dH at hr
 have T:=y38
 apply Spec.fn Tryz.func88 rfl
 focus (simp[Tryz.f88]<;>exact rfl)
 focus
  refine wB T (g:=?_)
  cases hr
  refine⟨.inr rfl,_,(ry T),?_⟩
  exact wr [] rfl .nil
 rfl
def y39:=an @ag108 <| an @ag3 <| an @cs108 <| an @uF <| an @uP <| an @ok108 <| an @st108 <| @zc108
theorem pN{v1:Int}{v2:Int}{v3:Int}{v4:Int}{v5:Int}{v6:Int}(hr:cH v1 v2 v3 v4=some (v5,v6)):Spec (lim Tryz.prog) 87 [.agg [.v (.int .i64 v1),.v (.int .i64 v2)],.agg [.v (.int .i64 v3),.v (.int .i64 v4)]] ⟨[.agg [.v (.int .i64 v5),.v (.int .i64 v6)]],[]⟩:=by
 unfold cH at hr
 have T:=y39
 apply Spec.fn Tryz.func87 rfl
 focus (simp[Tryz.f87]<;>exact rfl)
 focus
  refine wB T (g:=?_)
  cases hr
  refine⟨.inr rfl,_,(ry T),?_⟩
  exact wr [] rfl .nil
 rfl
end Go.Rex
namespace Go.Rex
open Go.Proofs
open Go Go.Rex Go.RowKit
set_option maxRecDepth 100000
set_option maxHeartbeats 1000000
def y40:=an @ag108 <| an @by108 <| an @cs108 <| an @ok108 <| an @so77 <| an @zc108 <| @bM
theorem oT{v1:(List (Int×Int))}{v2:(List Int)}{v3:(List (Int×Int))}(hr:dY v1 v2=some (v3)):Spec (lim Tryz.prog) 39 [.list 2 (v1.map e_ii),.func 41 [] [.fptr true [.func 86 [] [.fptr true [.list 1 (v2.map e_i)] 0]] 0]] ⟨[.lsl 0 0 v3.length],[.rows 2 (v3.map e_ii)]⟩:=by
 unfold dY at hr
 have T:=an y40 <| an @e_i.eq_1 <| @e_ii.eq_1
 apply Spec.fn Tryz.func39 rfl
 focus (simp[Tryz.f39]<;>exact rfl)
 focus
  refine wc_ T (g:=?_)
  obtain⟨v4,h1,hr⟩:=bs hr
  apply TO.mk e_ii h1 (wn T) rfl rfl so77 zc108 by108 rfl rfl rfl
  repeat exact sd T
  refine wc_ T (g:=?_)
  obtain⟨v52,h30,hr⟩:=bs hr
  refine TX.loopE (step:=cK v1 v2 v4) (x:=(v4,0)) h30 (fun (v5,v6)=>⟨.list 2 (v1.map e_ii)::.func 41 [] [.fptr true [.func 86 [] [.fptr true [.list 1 (v2.map e_i)] 0]] 0]::.Z::.Z::.Z::.lsl 0 0 v5.length::.Z::.Z::.Z::.Z::.Z::.Z::.Z::.v (.int .i64 (v4.length:Int))::.v (.int .i64 v6)::.Z::.Z::.Z::.Z::.Z::.Z::.Z::.Z::.Z::.Z::.Z::.Z::.Z::.Z::.Z::.Z::.Z::.Z::.Z::.Z::.Z::.Z::.Z::.Z::.Z::.Z::[],[.rows 2 (v5.map e_ii)]⟩) (fun v29=>(.exit 0,⟨.Z::.Z::.Z::.Z::.Z::.lsl 0 0 v29.length::.Z::.Z::.Z::.Z::.Z::.Z::.Z::.Z::.Z::.Z::.Z::.Z::.Z::.Z::.Z::.Z::.Z::.Z::.Z::.Z::.Z::.Z::.Z::.Z::.Z::.Z::.Z::.Z::.Z::.Z::.Z::.Z::.Z::.Z::.Z::[],[.rows 2 (v29.map e_ii)]⟩)) ?_ ?_ ?_ ?_
  ·rintro⟨v5,v6⟩ v0 hr
   dsimp only[cK] at hr
   try dsimp only
   refine wa_ T (g:=?_)
   rcases ifs hr with⟨h16,hr⟩|⟨h16,hr⟩
   ·have T:=an h16 T
    refine wc_ T (g:=?_)
    obtain⟨v51,h29,hr⟩:=bs hr
    refine TX.loopE (step:=bD v1 v2 v6) (x:=(v5,0)) h29 (fun (v30,v31)=>⟨.list 2 (v1.map e_ii)::.func 41 [] [.fptr true [.func 86 [] [.fptr true [.list 1 (v2.map e_i)] 0]] 0]::.Z::.Z::.Z::.lsl 0 0 v30.length::.v (.int .i64 v6)::.Z::.Z::.Z::.Z::.Z::.Z::.v (.int .i64 (v4.length:Int))::.v (.int .i64 v6)::.Z::.Z::.list 2 (v1.map e_ii)::.v (.int .i64 (v1.length:Int))::.v (.int .i64 v31)::.Z::.Z::.Z::.Z::.Z::.Z::.Z::.Z::.Z::.Z::.Z::.Z::.Z::.Z::.Z::.Z::.Z::.Z::.Z::.Z::.Z::[],[.rows 2 (v30.map e_ii)]⟩) (fun v41=>(.exit 2,⟨.list 2 (v1.map e_ii)::.func 41 [] [.fptr true [.func 86 [] [.fptr true [.list 1 (v2.map e_i)] 0]] 0]::.Z::.Z::.Z::.lsl 0 0 v41.length::.Z::.Z::.Z::.Z::.Z::.Z::.Z::.v (.int .i64 (v4.length:Int))::.v (.int .i64 v6)::.Z::.Z::.Z::.Z::.Z::.Z::.Z::.Z::.Z::.Z::.Z::.Z::.Z::.Z::.Z::.Z::.Z::.Z::.Z::.Z::.Z::.Z::.Z::.Z::.Z::.Z::[],[.rows 2 (v41.map e_ii)]⟩)) ?_ ?_ ?_ ?_
    ·rintro⟨v30,v31⟩ v0 hr
     dsimp only[bD] at hr
     try dsimp only
     refine wa_ T (g:=?_)
     rcases ifs hr with⟨h23,hr⟩|⟨h23,hr⟩
     ·have T:=an h23 T
      refine wa_ T (g:=?_)
      obtain⟨⟨v42,v43⟩,h24,hr⟩:=bs hr
      try dsimp only at hr
      have T:=an (gx e_ii h24) T
      refine wA T (g:=?_)
      obtain⟨⟨v44,v45⟩,h25,hr⟩:=bs hr
      try dsimp only at hr
      have h25m:=bK (f:=e_ii) h25
      have h25l:=bZ h25
      try simp only[List.length_set] at h25l
      have h25a:=cB h25
      have T:=an h25m T
      have T:=an h25l T
      have T:=an h25a T
      refine wA T (g:=?_)
      obtain⟨v46,h26,hr⟩:=bs hr
      apply TD.cal (wn T) rfl Vj (mR h26) rfl rfl rfl
      repeat exact sd T
      refine wa_ T (g:=?_)
      obtain⟨⟨v47,v48⟩,h27,hr⟩:=bs hr
      try dsimp only at hr
      apply TD.cal (wn T) rfl Vi (mP h27) rfl rfl rfl
      repeat exact sd T
      refine wa_ T (g:=?_)
      obtain⟨⟨v49,v50⟩,h28,hr⟩:=bs hr
      try dsimp only at hr
      apply TD.cal (wn T) rfl Wg (pN h28) rfl rfl rfl
      repeat exact sd T
      refine wa_ T (g:=?_)
      apply TD.sr e_ii v30 (v44,v45) (v49,v50) h25a (wn T) rfl rfl rfl rfl rfl ok108 (by rw[cs108];rfl) rfl rfl rfl rfl rfl
      repeat exact sd T
      refine wa_ T (g:=?_)
      cases hr
      refine⟨rfl,?_⟩
      exact wk_ T [some 0] rfl (.rows .nil rfl rfl)
     ·have T:=an h23 T
      refine wa_ T (g:=?_)
      cases hr
      refine⟨rfl,?_⟩
      exact wk_ T [some 0] rfl (.rows .nil rfl rfl)
    ·intro e h;cases h
    ·try dsimp only
     refine wa_ T (g:=?_)
     cases hr
     refine⟨rfl,?_⟩
     exact wk_ T [some 0] rfl (.rows .nil rfl rfl)
    ·try dsimp only
     exact wk_ T [some 0] rfl (.rows .nil rfl rfl)
   ·have T:=an h16 T
    refine wa_ T (g:=?_)
    cases hr
    refine⟨rfl,?_⟩
    exact wk_ T [some 0] rfl (.rows .nil rfl rfl)
  ·intro e h;cases h
  ·try dsimp only
   refine wa_ T (g:=?_)
   cases hr
   refine⟨.inr rfl,_,(ry T),?_⟩
   exact wr [some 0] rfl (.rows .nil rfl rfl)
  ·try dsimp only
   exact wr [some 0] rfl (.rows .nil rfl rfl)
 rfl
end Go.Rex
namespace Go.Rex
open Go.Proofs
open Go Go.Rex Go.RowKit
set_option maxRecDepth 100000
set_option maxHeartbeats 200000
def y41:=an @ag108 <| an @ag3 <| an @by108 <| an @cs108 <| an @uF <| an @uP <| an @ni77 <| an @ok108 <| an @so77 <| an @st108 <| an @zc108 <| @bM
theorem tS{v1:(List (Int×Int))}{v2:Int}{v3:(List (Int×Int))}{v4:Bool}(hr:hP v1 v2=some (v3,v4)):Spec (lim Tryz.prog) 42 [.list 2 (v1.map e_ii),.v (.int .i64 v2)] ⟨[.tuple [.lsl 0 0 v3.length,.v (.bool v4)]],[.rows 2 (v3.map e_ii)]⟩:=by
 unfold hP at hr
 have T:=an y41 <| @e_ii.eq_1
 apply Spec.fn Tryz.func42 rfl
 focus (simp[Tryz.f42]<;>exact rfl)
 focus
  refine wc_ T (g:=?_)
  apply TX.vt (α:=(Int×Int)) e_ii 6 2 rfl
  repeat exact sd T
  with_reducible apply TX.here
  refine wa_ T (g:=?_)
  obtain⟨v14,h13,hr⟩:=bs hr
  refine TX.loopE (step:=eX v1 v2) (x:=(([]:List (Int×Int)),0)) h13 (fun (v5,v6)=>⟨.Z::.v (.int .i64 v2)::.Z::.Z::.Z::.Z::.lsl 0 0 v5.length::.Z::.Z::.list 2 (v1.map e_ii)::.v (.int .i64 (v1.length:Int))::.v (.int .i64 v6)::.Z::.Z::.Z::.Z::.Z::.Z::.Z::.Z::.Z::.Z::.Z::.Z::.Z::.Z::.Z::.Z::.Z::.Z::.Z::.Z::.Z::.Z::.Z::.Z::.Z::.Z::.Z::.Z::.Z::[],[.rows 2 (v5.map e_ii)]⟩) (fun e=>match e with|(.inl _)=>(.ret,⟨.Z::.Z::.Z::.Z::.v (.slice none 0 0)::.v (.bool false)::.Z::.Z::.Z::.Z::.Z::.Z::.Z::.Z::.Z::.Z::.Z::.Z::.Z::.Z::.Z::.Z::.Z::.Z::.Z::.Z::.Z::.Z::.Z::.Z::.Z::.Z::.Z::.Z::.Z::.Z::.Z::.Z::.Z::.Z::.Z::[],[]⟩)|(.inr v10)=>(.exit 0,⟨.Z::.Z::.Z::.Z::.Z::.Z::.lsl 0 0 v10.length::.Z::.Z::.Z::.Z::.Z::.Z::.Z::.Z::.Z::.Z::.Z::.Z::.Z::.Z::.Z::.Z::.Z::.Z::.Z::.Z::.Z::.Z::.Z::.Z::.Z::.Z::.Z::.Z::.Z::.Z::.Z::.Z::.Z::.Z::[],[.rows 2 (v10.map e_ii)]⟩)) ?_ ?_ ?_ ?_
  ·rintro⟨v5,v6⟩ v0 hr
   dsimp only[eX] at hr
   try dsimp only
   refine wa_ T (g:=?_)
   rcases ifs hr with⟨h7,hr⟩|⟨h7,hr⟩
   ·have T:=an h7 T
    refine wa_ T (g:=?_)
    obtain⟨⟨v11,v12⟩,h8,hr⟩:=bs hr
    try dsimp only at hr
    have h8m:=bK (f:=e_ii) h8
    have h8l:=bZ h8
    try simp only[List.length_set] at h8l
    have h8a:=cB h8
    have T:=an h8m T
    have T:=an h8l T
    have T:=an h8a T
    refine wA T (g:=?_)
    by_cases h9:v2=0
    ·rw[if_pos h9] at hr
     cases hr
    ·rw[if_neg h9] at hr
     have T:=an h9 T
     refine wa_ T (g:=?_)
     rcases ifs hr with⟨h10,hr⟩|⟨h10,hr⟩
     ·have T:=an h10 T
      refine wa_ T (g:=?_)
      cases hr
      refine⟨rfl,?_⟩
      exact wk_ T [] rfl .nil
     ·have T:=an h10 T
      refine wA T (g:=?_)
      rcases ifs hr with⟨h11,hr⟩|⟨h11,hr⟩
      ·have T:=an h11 T
       refine wa_ T (g:=?_)
       cases hr
       refine⟨rfl,?_⟩
       exact wk_ T [] rfl .nil
      ·have T:=an h11 T
       refine wA T (g:=?_)
       apply TD.bm e_ii ([((IntKind.i64.wrap (v11.tdiv v2)),(IntKind.i64.wrap (v12.tdiv v2)))]:List (Int×Int)) (wn T) rfl (by simp only[zz,y41,e_ii,Nat.reduceAdd,Nat.reduceMul,Nat.reduceLeDiff,Nat.reduceEqDiff,tslice,tparts,h7,h8m,h8l,h8a,h9,h10,h11];exact rfl) rfl
       repeat exact sd T
       refine wa_ T (g:=?_)
       obtain⟨v13,h12,hr⟩:=bs hr
       apply TD.ap (f:=e_ii) (xs:=v5) (ys:=([((IntKind.i64.wrap (v11.tdiv v2)),(IntKind.i64.wrap (v12.tdiv v2)))]:List (Int×Int))) (wn T) rfl rfl (by first|rfl|simp only[List.length_set]) rfl rfl so77 ni77 zc108 rfl (by rw[by108];exact h12) (fun _=>⟨rfl,rfl,rfl⟩) rfl
       repeat exact sd T
       refine wa_ T (g:=?_)
       cases hr
       refine⟨rfl,?_⟩
       exact wk_ T [some 0] rfl (.rows .nil rfl rfl)
   ·have T:=an h7 T
    refine wa_ T (g:=?_)
    cases hr
    refine⟨rfl,?_⟩
    exact wk_ T [some 0] rfl (.rows .nil rfl rfl)
  ·intro e h;rcases e with _|e<;>cases h
  ·try dsimp only
   rcases v14 with _|v15
   ·try dsimp only at hr
    try dsimp only
    refine wa_ T (g:=?_)
    cases hr
    refine⟨.inr rfl,_,(ry T),?_⟩
    exact wr [none] rfl (.virt .nil)
   ·try dsimp only at hr
    try dsimp only
    refine wa_ T (g:=?_)
    cases hr
    refine⟨.inr rfl,_,(ry T),?_⟩
    exact wr [some 0] rfl (.rows .nil rfl rfl)
  ·try dsimp only
   exact wr [some 0] rfl (.rows .nil rfl rfl)
 rfl
theorem rM{v1:Int}{v2:(List (Int×Int))}{v3:Int}{v4:(List (Int×Int))}(hr:jR v1 v2=some (v3,v4)):Spec (lim Tryz.prog) 80 [.v (.int .i64 v1),.func 90 [] [.fptr true [.list 2 (v2.map e_ii)] 0]] ⟨[.func 112 [] [.fptr true [.v (.int .i64 v3)] 0,.fptr true [.func 90 [] [.fptr true [.list 2 (v4.map e_ii)] 0]] 0]],[]⟩:=by
 unfold jR at hr
 have T:=@e_ii.eq_1
 apply Spec.fn Tryz.func80 rfl
 focus (simp[Tryz.f80]<;>exact rfl)
 focus
  refine wb_ T (g:=?_)
  cases hr
  refine⟨.inr rfl,_,(ry T),?_⟩
  exact wr [] rfl .nil
 rfl
theorem kR{v1:Int}{v2:Int}{v3:Bool}(hr:eL v1 v2=some (v3)):Spec (lim Tryz.prog) 117 [.v (.int .i64 v1),.v (.int .i64 v2)] ⟨[.v (.bool v3)],[]⟩:=by
 unfold eL at hr
 have T:=trivial
 apply Spec.fn Tryz.func117 rfl
 focus (simp[Tryz.f117]<;>exact rfl)
 focus
  refine wa_ T (g:=?_)
  apply TO.pop1 (wn T) (Lf rfl)
  repeat exact sd T
  refine wa_ T (g:=?_)
  rcases ifs hr with⟨h1,hr⟩|⟨h1,hr⟩
  ·have T:=an h1 T
   refine wa_ T (g:=?_)
   cases hr
   refine⟨.inr rfl,_,(ry T),?_⟩
   exact wk_ T [] rfl .nil
  ·have T:=an h1 T
   refine wa_ T (g:=?_)
   cases hr
   refine⟨.inr rfl,_,(ry T),?_⟩
   exact wk_ T [] rfl .nil
 rfl
def y42:=an @ag3 <| an @uF <| @uP
theorem oQ{v1:Int}{v2:Int}{v3:Int}{v4:Bool}{v5:Int}(hr:eZ v1 v2 v3=some (v4,v5)):Spec (lim Tryz.prog) 91 [.agg [.v (.int .i64 v1),.v (.int .i64 v2)],.v (.int .i64 v3)] ⟨[.func 85 [] [.fptr true [.v (.bool v4)] 0,.fptr true [.v (.int .i64 v5)] 0]],[]⟩:=by
 unfold eZ at hr
 have T:=y42
 apply Spec.fn Tryz.func91 rfl
 focus (simp[Tryz.f91]<;>exact rfl)
 focus
  refine wB T (g:=?_)
  obtain⟨v6,h1,hr⟩:=bs hr
  apply TO.cal (wn T) rfl Lm (kR h1) rfl rfl rfl
  repeat exact sd T
  refine wa_ T (g:=?_)
  apply TO.pop1 (wn T) (dF rfl)
  repeat exact sd T
  refine wa_ T (g:=?_)
  rcases ifs hr with⟨h2,hr⟩|⟨h2,hr⟩
  ·have T:=an h2 T
   refine wA T (g:=?_)
   obtain⟨v7,h3,hr⟩:=bs hr
   apply TO.cal (wn T) rfl Lm (kR h3) rfl rfl rfl
   repeat exact sd T
   refine wa_ T (g:=?_)
   apply TO.pop1 (wn T) (dF rfl)
   repeat exact sd T
   refine wa_ T (g:=?_)
   obtain⟨⟨v8,v9⟩,h4,hr⟩:=bs hr
   try dsimp only at hr
   apply TO.cal (wn T) rfl iF (aF h4) rfl rfl rfl
   repeat exact sd T
   refine wa_ T (g:=?_)
   cases hr
   refine⟨.inr rfl,_,(ry T),?_⟩
   exact wk_ T [] rfl .nil
  ·have T:=an h2 T
   refine wa_ T (g:=?_)
   obtain⟨⟨v10,v11⟩,h5,hr⟩:=bs hr
   try dsimp only at hr
   apply TO.cal (wn T) rfl iF (aF h5) rfl rfl rfl
   repeat exact sd T
   refine wa_ T (g:=?_)
   cases hr
   refine⟨.inr rfl,_,(ry T),?_⟩
   exact wk_ T [] rfl .nil
 rfl
def y43:=an @ag108 <| an @ag77 <| an @cs108 <| an @ok108 <| @so77
theorem mV{v1:Int}{v2:(List (Int×Int))}{v3:Int}(hr:eV v1 v2=some (v3)):Spec (lim Tryz.prog) 90 [.v (.int .i64 v1),.fptr true [.list 2 (v2.map e_ii)] 0] ⟨[.v (.int .i64 v3)],[]⟩:=by
 unfold eV at hr
 have T:=an y43 <| @e_ii.eq_1
 apply Spec.fn Tryz.func90 rfl
 focus (simp[Tryz.f90]<;>exact rfl)
 focus
  refine wA T (g:=?_)
  obtain⟨⟨v4,v5⟩,h1,hr⟩:=bs hr
  try dsimp only at hr
  have T:=an (gx e_ii h1) T
  refine wA T (g:=?_)
  obtain⟨⟨v6,v7⟩,h2,hr⟩:=bs hr
  try dsimp only at hr
  apply TO.cal (wn T) rfl Wa (oQ h2) rfl rfl rfl
  repeat exact sd T
  refine wa_ T (g:=?_)
  obtain⟨v8,h3,hr⟩:=bs hr
  apply TO.cal (wn T) rfl nJ (aH h3) rfl rfl rfl
  repeat exact sd T
  refine wa_ T (g:=?_)
  cases hr
  refine⟨.inr rfl,_,(ry T),?_⟩
  exact wr [] rfl .nil
 rfl
def y44:=an @ag117 <| an @ag3 <| @bM
theorem oV{v1:Int}{v2:(List (Int×Int))}{v3:Int}(hr:gP v1 v2=some (v3)):Spec (lim Tryz.prog) 112 [.fptr true [.v (.int .i64 v1)] 0,.fptr true [.func 90 [] [.fptr true [.list 2 (v2.map e_ii)] 0]] 0] ⟨[.v (.int .i64 v3)],[]⟩:=by
 unfold gP at hr
 have T:=an y44 <| @e_ii.eq_1
 apply Spec.fn Tryz.func112 rfl
 focus (simp[Tryz.f112]<;>exact rfl)
 focus
  refine wA T (g:=?_)
  obtain⟨v8,h7,hr⟩:=bs hr
  refine TX.loopE (step:=bS v1 v2) (x:=0) h7 (fun v4=>⟨.Z::.fptr true [.func 90 [] [.fptr true [.list 2 (v2.map e_ii)] 0]] 0::.Z::.Z::.Z::.v (.int .i64 v1)::.v (.int .i64 v4)::.Z::.Z::.Z::.Z::.Z::.Z::.Z::.Z::.Z::[],[]⟩) (fun e=>match e with|(.inl v6)=>(.ret,⟨.Z::.Z::.v (.int .i64 v6)::.Z::.Z::.Z::.Z::.Z::.Z::.Z::.Z::.Z::.Z::.Z::.Z::.Z::[],[]⟩)|(.inr _)=>(.exit 0,⟨.Z::.Z::.Z::.Z::.Z::.Z::.Z::.Z::.Z::.Z::.Z::.Z::.Z::.Z::.Z::.Z::[],[]⟩)) ?_ ?_ ?_ ?_
  ·rintro v4 v0 hr
   dsimp only[bS] at hr
   try dsimp only
   refine wa_ T (g:=?_)
   rcases ifs hr with⟨h4,hr⟩|⟨h4,hr⟩
   ·have T:=an h4 T
    refine wA T (g:=?_)
    obtain⟨v7,h5,hr⟩:=bs hr
    apply TO.cal (wn T) rfl Wc (mV h5) rfl rfl rfl
    repeat exact sd T
    refine wa_ T (g:=?_)
    rcases ifs hr with⟨h6,hr⟩|⟨h6,hr⟩
    ·have T:=an h6 T
     refine wa_ T (g:=?_)
     cases hr
     refine⟨rfl,?_⟩
     exact wk_ T [] rfl .nil
    ·have T:=an h6 T
     refine wa_ T (g:=?_)
     cases hr
     refine⟨rfl,?_⟩
     exact wk_ T [] rfl .nil
   ·have T:=an h4 T
    refine wa_ T (g:=?_)
    cases hr
    refine⟨rfl,?_⟩
    exact wk_ T [] rfl .nil
  ·intro e h;rcases e with _|e<;>cases h
  ·try dsimp only
   rcases v8 with v9|_
   ·try dsimp only at hr
    try dsimp only
    refine wa_ T (g:=?_)
    cases hr
    refine⟨.inr rfl,_,(ry T),?_⟩
    exact wr [] rfl .nil
   ·try dsimp only at hr
    try dsimp only
    refine wa_ T (g:=?_)
    cases hr
    refine⟨.inr rfl,_,(ry T),?_⟩
    exact wr [] rfl .nil
  ·try dsimp only
   exact wr [] rfl .nil
 rfl
def y45:=an @ag108 <| an @ag3 <| an @ag77 <| an @by84 <| an @cs108 <| an @cs84 <| an @uF <| an @uP <| an @ni31 <| an @ok108 <| an @so31 <| an @so77 <| an @un3 <| an @un44 <| an @zc108 <| an @zc84 <| @bM
theorem sQ{v1:(List (Int×Int))}{v2:(List (Nat×Nat))}{v3:Int}(hr:bX v1=some (v2,v3)):Spec (lim Tryz.prog) 43 [.list 2 (v1.map e_ii)] ⟨[.tuple [.lsl 0 0 v2.length,.v (.int .i64 v3)]],[.rows 1 (v2.map e_c)]⟩:=by
 unfold bX at hr
 have T:=an y45 <| an @e_c.eq_1 <| @e_ii.eq_1
 apply Spec.fn Tryz.func43 rfl
 focus (simp[Tryz.f43]<;>exact rfl)
 focus
  refine wD T (g:=?_)
  obtain⟨⟨v4,v5⟩,h1,hr⟩:=bs hr
  try dsimp only at hr
  apply TO.cal (wn T) rfl Kp (rM h1) rfl rfl rfl
  repeat exact sd T
  refine wa_ T (g:=?_)
  obtain⟨v6,h2,hr⟩:=bs hr
  apply TO.cal (wn T) rfl Dz (oV h2) rfl rfl rfl
  repeat exact sd T
  refine wa_ T (g:=?_)
  rcases ifs hr with⟨h3,hr⟩|⟨h3,hr⟩
  ·have T:=an h3 T
   refine wa_ T (g:=?_)
   cases hr
   refine⟨.inr rfl,_,(ry T),?_⟩
   exact wk_ T [none] rfl (.virt .nil)
  ·have T:=an h3 T
   refine wC T (g:=?_)
   apply TX.vt (α:=(Nat×Nat)) e_c 5 1 rfl
   repeat exact sd T
   with_reducible apply TX.here
   refine wa_ T (g:=?_)
   obtain⟨v16,h10,hr⟩:=bs hr
   refine TX.loopE (step:=dJ v1) (x:=(([]:List (Nat×Nat)),0)) h10 (fun (v7,v8)=>⟨.Z::.Z::.Z::.Z::.Z::.lsl 0 0 v7.length::.Z::.Z::.Z::.Z::.Z::.Z::.Z::.Z::.Z::.Z::.list 2 (v1.map e_ii)::.v (.int .i64 (v1.length:Int))::.v (.int .i64 v8)::.Z::.Z::.Z::.Z::.Z::.Z::.Z::.Z::.Z::.Z::.Z::.Z::.Z::.Z::.Z::[],[.rows 1 (v7.map e_c)]⟩) (fun v12=>(.exit 0,⟨.Z::.Z::.Z::.Z::.Z::.lsl 0 0 v12.length::.Z::.Z::.Z::.Z::.Z::.Z::.Z::.Z::.Z::.Z::.Z::.Z::.Z::.Z::.Z::.Z::.Z::.Z::.Z::.Z::.Z::.Z::.Z::.Z::.Z::.Z::.Z::.Z::[],[.rows 1 (v12.map e_c)]⟩)) ?_ ?_ ?_ ?_
   ·rintro⟨v7,v8⟩ v0 hr
    dsimp only[dJ] at hr
    try dsimp only
    refine wa_ T (g:=?_)
    rcases ifs hr with⟨h7,hr⟩|⟨h7,hr⟩
    ·have T:=an h7 T
     refine wa_ T (g:=?_)
     obtain⟨⟨v13,v14⟩,h8,hr⟩:=bs hr
     try dsimp only at hr
     have h8m:=bK (f:=e_ii) h8
     have h8l:=bZ h8
     try simp only[List.length_set] at h8l
     have h8a:=cB h8
     have T:=an h8m T
     have T:=an h8l T
     have T:=an h8a T
     refine wA T (g:=?_)
     apply TO.pop1 (wn T) (jG un3 un44 rfl)
     repeat exact sd T
     refine wA T (g:=?_)
     apply TO.pop1 (wn T) (jG un3 un44 rfl)
     repeat exact sd T
     refine wa_ T (g:=?_)
     apply TO.pop1 (wn T) (rL rfl rfl)
     repeat exact sd T
     refine wa_ T (g:=?_)
     apply TO.bm e_c ([((FloatKind.f32.nearest v13),(FloatKind.f32.nearest v14))]:List (Nat×Nat)) (wn T) rfl (by simp only[zz,y45,e_c,e_ii,Nat.reduceAdd,Nat.reduceMul,Nat.reduceLeDiff,Nat.reduceEqDiff,tslice,tparts,h3,h7,h8m,h8l,h8a];exact rfl) rfl
     repeat exact sd T
     refine wa_ T (g:=?_)
     obtain⟨v15,h9,hr⟩:=bs hr
     apply TO.ap (f:=e_c) (xs:=v7) (ys:=([((FloatKind.f32.nearest v13),(FloatKind.f32.nearest v14))]:List (Nat×Nat))) (wn T) rfl rfl (by first|rfl|simp only[List.length_set]) rfl rfl so31 ni31 zc84 rfl (by rw[by84];exact h9) (fun _=>⟨rfl,rfl,rfl⟩)
     repeat exact sd T
     refine wa_ T (g:=?_)
     cases hr
     refine⟨rfl,?_⟩
     exact wk_ T [some 0] rfl (.rows .nil rfl rfl)
    ·have T:=an h7 T
     refine wa_ T (g:=?_)
     cases hr
     refine⟨rfl,?_⟩
     exact wk_ T [some 0] rfl (.rows .nil rfl rfl)
   ·intro e h;cases h
   ·try dsimp only
    refine wa_ T (g:=?_)
    cases hr
    refine⟨.inr rfl,_,(ry T),?_⟩
    exact wk_ T [some 0] rfl (.rows .nil rfl rfl)
   ·try dsimp only
    exact wk_ T [some 0] rfl (.rows .nil rfl rfl)
 rfl
end Go.Rex
namespace Go.Rex
open Go.Proofs
open Go Go.Rex Go.RowKit
set_option maxRecDepth 100000
set_option maxHeartbeats 1000000
def y46:=an @ag26 <| an @ag31 <| an @ag67 <| an @cs26 <| an @cs67 <| an @cs70 <| an @cs75 <| an @ok26 <| an @ok67 <| an @ok75 <| an @so114 <| an @st67 <| an @zc67 <| an @zc70 <| @zc75
theorem sN{v1:(List (Nat×Nat))}{v2:Int}{v3:(List Int)}{v4:Int}{v5:(List (Nat×Nat))}{v6:Int}(hr:cP v1 v2 v3 v4=some (v5,v6)):Spec (lim Tryz.prog) 8 [.list 1 (v1.map e_c),.agg [.v (.int .i64 v2),.list 1 (v3.map e_i)],.v (.int .i64 v4)] ⟨[.tuple [.lsl 0 0 v5.length,.v (.int .i64 v6)]],[.rows 1 (v5.map e_c)]⟩:=by
 unfold cP at hr
 have T:=an y46 <| an @e_c.eq_1 <| @e_i.eq_1
 apply Spec.fn Tryz.func8 rfl
 focus (simp[Tryz.f8]<;>exact rfl)
 focus
  refine wB T (g:=?_)
  obtain⟨v7,h1,hr⟩:=bs hr
  apply TD.cal (wn T) rfl Wi (vH h1) rfl rfl rfl
  repeat exact sd T
  refine wA T (g:=?_)
  obtain⟨⟨v8,v9,v10⟩,h2,hr⟩:=bs hr
  try dsimp only at hr
  apply TD.cal (wn T) rfl Vy (mE h2) rfl rfl rfl
  repeat exact sd T
  refine wA T (g:=?_)
  apply TD.frz 0 rfl rfl
  repeat exact sd T
  refine we_ T (g:=?_)
  obtain⟨v11,h3,hr⟩:=bs hr
  apply TD.cal (wn T) rfl pW (nS h3) rfl rfl rfl
  repeat exact sd T
  refine wa_ T (g:=?_)
  rcases ifs hr with⟨h4,hr⟩|⟨h4,hr⟩
  ·have T:=an h4 T
   refine wa_ T (g:=?_)
   cases hr
   refine⟨.inr rfl,_,(ry T),?_⟩
   exact wk_ T [none] rfl (.virt .nil)
  ·have T:=an h4 T
   refine wA T (g:=?_)
   obtain⟨v12,h5,hr⟩:=bs hr
   apply TO.cal (wn T) rfl Xe (mZ h5) rfl rfl rfl
   repeat exact sd T
   refine wA T (g:=?_)
   obtain⟨v13,h6,hr⟩:=bs hr
   apply TO.cal (wn T) rfl Vg (rC h6) rfl rfl rfl
   repeat exact sd T
   refine wa_ T (g:=?_)
   apply TO.frz 1 rfl rfl
   repeat exact sd T
   refine wa_ T (g:=?_)
   obtain⟨v14,h7,hr⟩:=bs hr
   apply TO.lok (wn T) rfl Xa (oT h7) (vw T) rfl rfl (by simp[tZ,cl,e_ff,e_c,e_i,e_ii])
   repeat exact sd T
   refine wA T (g:=?_)
   obtain⟨v15,h8,hr⟩:=bs hr
   apply TO.cal (wn T) rfl zM (bC h8) rfl rfl rfl
   repeat exact sd T
   refine wa_ T (g:=?_)
   obtain⟨⟨v16,v17⟩,h9,hr⟩:=bs hr
   try dsimp only at hr
   apply TO.lok (wn T) rfl Wp (tS h9) (vw T) rfl rfl (by simp[tZ,cl,e_ff,e_c,e_i,e_ii])
   repeat exact sd T
   refine wa_ T (g:=?_)
   apply TO.pop1 (wn T) (dF rfl)
   repeat exact sd T
   refine wa_ T (g:=?_)
   rcases ifs hr with⟨h10,hr⟩|⟨h10,hr⟩
   ·have T:=an h10 T
    refine wa_ T (g:=?_)
    obtain⟨⟨v18,v19⟩,h11,hr⟩:=bs hr
    try dsimp only at hr
    apply TO.lok (wn T) rfl Up (sQ h11) (vw T) rfl rfl (by simp[tZ,cl,e_ff,e_c,e_i,e_ii])
    repeat exact sd T
    refine wa_ T (g:=?_)
    cases hr
    refine⟨.inr rfl,_,(ry T),?_⟩
    exact wk_ T [some 5] rfl (.rows .nil rfl rfl)
   ·have T:=an h10 T
    refine wa_ T (g:=?_)
    cases hr
    refine⟨.inr rfl,_,(ry T),?_⟩
    exact wk_ T [none] rfl (.virt .nil)
 rfl
def y47:=an @un3 <| @un95
theorem nY{v1:Nat}{v2:Bool}(hr:dG v1=some (v2)):Spec (lim Tryz.prog) 53 [.v (.float .f64 v1)] ⟨[.v (.bool v2)],[]⟩:=by
 unfold dG at hr
 have T:=y47
 apply Spec.fn Tryz.func53 rfl
 focus (simp[Tryz.f53]<;>exact rfl)
 focus
  refine wa_ T (g:=?_)
  apply TO.pop1 (wn T) (fB rfl rfl (by decide))
  repeat exact sd T
  refine wa_ T (g:=?_)
  rcases ifs hr with⟨h1,hr⟩|⟨h1,hr⟩
  ·have T:=an h1 T
   refine wa_ T (g:=?_)
   cases hr
   refine⟨.inr rfl,_,(ry T),?_⟩
   exact wk_ T [] rfl .nil
  ·have T:=an h1 T
   refine wa_ T (g:=?_)
   obtain⟨v3,h2,hr⟩:=bs hr
   apply TO.pop1 (wn T) (Kf rfl rfl (by decide) (h2))
   repeat exact sd T
   refine wa_ T (g:=?_)
   apply TO.pop1 (wn T) (fB rfl rfl (by decide))
   repeat exact sd T
   refine wa_ T (g:=?_)
   rcases ifs hr with⟨h3,hr⟩|⟨h3,hr⟩
   ·have T:=an h3 T
    refine wa_ T (g:=?_)
    cases hr
    refine⟨.inr rfl,_,(ry T),?_⟩
    exact wk_ T [] rfl .nil
   ·have T:=an h3 T
    refine wa_ T (g:=?_)
    apply TO.pop1 (wn T) (fB rfl rfl (by decide))
    repeat exact sd T
    refine wa_ T (g:=?_)
    rcases ifs hr with⟨h4,hr⟩|⟨h4,hr⟩
    ·have T:=an h4 T
     refine wa_ T (g:=?_)
     apply TO.pop1 (wn T) (fB rfl rfl (by decide))
     repeat exact sd T
     refine wa_ T (g:=?_)
     apply TO.pop1 (wn T) (dF rfl)
     repeat exact sd T
     refine wa_ T (g:=?_)
     rcases ifs hr with⟨h5,hr⟩|⟨h5,hr⟩
     ·have T:=an h5 T
      refine wa_ T (g:=?_)
      obtain⟨v4,h6,hr⟩:=bs hr
      apply TO.pop1 (wn T) (jF un95 un3 rfl h6)
      repeat exact sd T
      refine wa_ T (g:=?_)
      apply TO.pop1 (wn T) (jG un3 un95 rfl)
      repeat exact sd T
      refine wa_ T (g:=?_)
      apply TO.pop1 (wn T) (fB rfl rfl (by decide))
      repeat exact sd T
      refine wa_ T (g:=?_)
      cases hr
      refine⟨.inr rfl,_,(ry T),?_⟩
      exact wk_ T [] rfl .nil
     ·have T:=an h5 T
      refine wa_ T (g:=?_)
      cases hr
      refine⟨.inr rfl,_,(ry T),?_⟩
      exact wk_ T [] rfl .nil
    ·have T:=an h4 T
     refine wa_ T (g:=?_)
     apply TO.pop1 (wn T) (dF rfl)
     repeat exact sd T
     refine wa_ T (g:=?_)
     cases hr
     refine⟨.inr rfl,_,(ry T),?_⟩
     exact wk_ T [] rfl .nil
 rfl
end Go.Rex
