/- Proofs that the program's functions do what these plain functions say. -/
import Derived.Test.YtbodidihhbejmaaGB
import Derived.Test.YtbodidihhbejmaaS
set_option linter.unusedSimpArgs false
set_option linter.unusedVariables false
set_option linter.defProp false
namespace Go.Rex
open Go.Proofs
open Go Go.Rex Go.RowKit
set_option maxRecDepth 100000
set_option maxHeartbeats 200000
def y1:=@so23
theorem nW{v1:(List (Nat×Nat))}{v2:Bool}(hr:eD v1=some (v2)):Spec (lim Try.prog) 8 [.list 2 (v1.map e_ff)] ⟨[.v (.bool v2)],[]⟩:=by
 unfold eD at hr
 have T:=an y1 <| @e_ff.eq_1
 apply Spec.fn Try.func8 rfl
 focus (simp[Try.f8]<;>exact rfl)
 focus
  refine wc_ T (g:=?_)
  rcases ifs hr with⟨h1,hr⟩|⟨h1,hr⟩
  ·have T:=an h1 T
   refine wa_ T (g:=?_)
   cases hr
   refine⟨.inr rfl,_,(ry T),?_⟩
   exact wk_ T [] rfl .nil
  ·have T:=an h1 T
   refine wc_ T (g:=?_)
   rcases ifs hr with⟨h2,hr⟩|⟨h2,hr⟩
   ·have T:=an h2 T
    refine wc_ T (g:=?_)
    cases hr
    refine⟨.inr rfl,_,(ry T),?_⟩
    exact wk_ T [] rfl .nil
   ·have T:=an h2 T
    refine wa_ T (g:=?_)
    cases hr
    refine⟨.inr rfl,_,(ry T),?_⟩
    exact wk_ T [] rfl .nil
 rfl
def y2:=an @ag51 <| an @ar71 <| an @by49 <| an @cs49 <| an @cs51 <| an @cs71 <| an @ni31 <| an @ok51 <| an @ok71 <| an @so23 <| an @so31 <| an @so71 <| an @zc49 <| @bH
theorem eC{v1:(List (Nat×Nat))}{v2:(List (Nat×Nat))}(hr:eN v1=some (v2)):Spec (lim Try.prog) 10 [.list 2 (v1.map e_ff)] ⟨[.lsl 0 0 v2.length],[.rows 1 (v2.map e_c)]⟩:=by
 unfold eN at hr
 have T:=an y2 <| an @e_c.eq_1 <| @e_ff.eq_1
 apply Spec.fn Try.func10 rfl
 focus (simp[Try.f10]<;>exact rfl)
 focus
  refine wa_ T (g:=?_)
  apply TX.vt (α:=(Nat×Nat)) e_c 3 1 rfl
  repeat exact sd T
  with_reducible apply TX.here
  refine wa_ T (g:=?_)
  obtain⟨v12,h7,hr⟩:=bs hr
  refine TX.loopE (step:=fL v1) (x:=(([]:List (Nat×Nat)),0)) h7 (fun (v3,v4)=>⟨.list 2 (v1.map e_ff)::.Z::.Z::.lsl 0 0 v3.length::.v (.int .i64 v4)::.Z::.Z::.Z::.Z::.Z::.Z::.Z::.Z::.Z::.Z::.Z::.Z::.Z::.Z::.Z::.Z::.Z::.Z::.Z::.Z::.Z::[],[.rows 1 (v3.map e_c)]⟩) (fun v8=>(.exit 0,⟨.Z::.Z::.Z::.lsl 0 0 v8.length::.Z::.Z::.Z::.Z::.Z::.Z::.Z::.Z::.Z::.Z::.Z::.Z::.Z::.Z::.Z::.Z::.Z::.Z::.Z::.Z::.Z::.Z::[],[.rows 1 (v8.map e_c)]⟩)) ?_ ?_ ?_ ?_
  ·rintro⟨v3,v4⟩ v0 hr
   dsimp only[fL] at hr
   try dsimp only
   refine wc_ T (g:=?_)
   rcases ifs hr with⟨h4,hr⟩|⟨h4,hr⟩
   ·have T:=an h4 T
    refine wa_ T (g:=?_)
    obtain⟨⟨v9,v10⟩,h5,hr⟩:=bs hr
    try dsimp only at hr
    have h5m:=cR (f:=e_ff) h5
    have h5l:=cV h5
    try simp only[List.length_set] at h5l
    have h5a:=dE h5
    repeat (first|(with_reducible first|refine mv ?_|refine TD.nil ?_)|((with_reducible first|apply TD.ia|apply TD.ia|apply TD.ld|apply TD.mv);(repeat (focus (show _=_;first|exact k1 rfl|exact k2 rfl|(simp only[zz,y2,e_c,e_ff,Nat.reduceAdd,Nat.reduceMul,Nat.reduceLeDiff,Nat.reduceEqDiff,aB,Nat.zero_add,z5,Int.reduceToNat,Int.reduceLE,Int.reduceLT,Int.cast_ofNat_Int,tload,aV,aS,List.getElem?_map,h4,h5m,h5l,h5a]<;>exact rfl)|exact rfl)));(with_reducible refine TD.here ?_))|((with_reducible apply TX.drawn);(focus decide +kernel);(focus (simp only[zl]<;>exact rfl));(focus exact rfl);(try dsimp only))|fail)
    have T:=an h5m T
    have T:=an h5l T
    have T:=an h5a T
    apply TD.pop1 (wn T) (nZ rfl rfl)
    repeat exact sd T
    refine wa_ T (g:=?_)
    apply TD.bm e_c ([(v9,v10)]:List (Nat×Nat)) (wn T) rfl (by simp only[zz,y2,e_c,e_ff,Nat.reduceAdd,Nat.reduceMul,Nat.reduceLeDiff,Nat.reduceEqDiff,tslice,tparts,h4,h5m,h5l,h5a];exact rfl) rfl
    repeat exact sd T
    refine wa_ T (g:=?_)
    obtain⟨v11,h6,hr⟩:=bs hr
    apply TD.ap (f:=e_c) (xs:=v3) (ys:=([(v9,v10)]:List (Nat×Nat))) (wn T) rfl rfl (by first|rfl|simp only[List.length_set]) rfl rfl so31 ni31 zc49 rfl (by rw[by49];exact h6) (fun _=>⟨rfl,rfl,rfl⟩) rfl
    repeat exact sd T
    refine wa_ T (g:=?_)
    cases hr
    refine⟨rfl,?_⟩
    exact wk_ T [some 0] rfl (.rows .nil rfl rfl)
   ·have T:=an h4 T
    refine wa_ T (g:=?_)
    cases hr
    refine⟨rfl,?_⟩
    exact wk_ T [some 0] rfl (.rows .nil rfl rfl)
  ·intro e h;cases h
  ·try dsimp only
   refine wa_ T (g:=?_)
   cases hr
   refine⟨.inr rfl,_,(ry T),?_⟩
   exact wr [some 0] rfl (.rows .nil rfl rfl)
  ·try dsimp only
   exact wr [some 0] rfl (.rows .nil rfl rfl)
 rfl
theorem kU{v1:(List (Nat×Nat))}{v2:(List (Nat×Nat))}(hr:eF v1=some (v2)):Spec (lim Try.prog) 34 [.list 1 (v1.map e_c)] ⟨[.func 82 [] [.fptr true [.list 1 (v2.map e_c)] 0]],[]⟩:=by
 unfold eF at hr
 have T:=@e_c.eq_1
 apply Spec.fn Try.func34 rfl
 focus (simp[Try.f34]<;>exact rfl)
 focus
  refine wb_ T (g:=?_)
  cases hr
  refine⟨.inr rfl,_,(ry T),?_⟩
  exact wr [] rfl .nil
 rfl
theorem aH{v1:Bool}{v2:Int}{v3:Bool}{v4:Int}(hr:aD v1 v2=some (v3,v4)):Spec (lim Try.prog) 55 [.v (.bool v1),.v (.int .i64 v2)] ⟨[.func 98 [] [.fptr true [.v (.bool v3)] 0,.fptr true [.v (.int .i64 v4)] 0]],[]⟩:=by
 unfold aD at hr
 have T:=trivial
 apply Spec.fn Try.func55 rfl
 focus (simp[Try.f55]<;>exact rfl)
 focus
  refine wb_ T (g:=?_)
  cases hr
  refine⟨.inr rfl,_,(ry T),?_⟩
  exact wr [] rfl .nil
 rfl
theorem qF{v1:Int}{v2:Int}{v3:Int}{v4:Bool}{v5:Int}(hr:fA v1 v2 v3=some (v4,v5)):Spec (lim Try.prog) 35 [.v (.int .i64 v1),.v (.int .i64 v2),.v (.int .i64 v3)] ⟨[.func 98 [] [.fptr true [.v (.bool v4)] 0,.fptr true [.v (.int .i64 v5)] 0]],[]⟩:=by
 unfold fA at hr
 have T:=trivial
 apply Spec.fn Try.func35 rfl
 focus (simp[Try.f35]<;>exact rfl)
 focus
  refine wa_ T (g:=?_)
  rcases ifs hr with⟨h1,hr⟩|⟨h1,hr⟩
  ·have T:=an h1 T
   refine wa_ T (g:=?_)
   obtain⟨⟨v6,v7⟩,h2,hr⟩:=bs hr
   try dsimp only at hr
   apply TO.cal (wn T) rfl gT (aH h2) rfl rfl rfl
   repeat exact sd T
   refine wa_ T (g:=?_)
   cases hr
   refine⟨.inr rfl,_,(ry T),?_⟩
   exact wk_ T [] rfl .nil
  ·have T:=an h1 T
   refine wa_ T (g:=?_)
   obtain⟨⟨v8,v9⟩,h3,hr⟩:=bs hr
   try dsimp only at hr
   apply TO.cal (wn T) rfl gT (aH h3) rfl rfl rfl
   repeat exact sd T
   refine wa_ T (g:=?_)
   cases hr
   refine⟨.inr rfl,_,(ry T),?_⟩
   exact wk_ T [] rfl .nil
 rfl
theorem nN{v1:Int}{v2:(List (Nat×Nat))}{v3:Int}{v4:(List (Nat×Nat))}(hr:gL v1 v2=some (v3,v4)):Spec (lim Try.prog) 65 [.v (.int .i64 v1),.func 66 [] [.fptr true [.list 1 (v2.map e_c)] 0]] ⟨[.func 100 [] [.fptr true [.v (.int .i64 v3)] 0,.fptr true [.func 66 [] [.fptr true [.list 1 (v4.map e_c)] 0]] 0]],[]⟩:=by
 unfold gL at hr
 have T:=@e_c.eq_1
 apply Spec.fn Try.func65 rfl
 focus (simp[Try.f65]<;>exact rfl)
 focus
  refine wb_ T (g:=?_)
  cases hr
  refine⟨.inr rfl,_,(ry T),?_⟩
  exact wr [] rfl .nil
 rfl
theorem nK{v1:Int}{v2:(List (Nat×Nat))}{v3:Int}{v4:(List (Nat×Nat))}(hr:gK v1 v2=some (v3,v4)):Spec (lim Try.prog) 65 [.v (.int .i64 v1),.func 83 [] [.fptr true [.list 1 (v2.map e_c)] 0]] ⟨[.func 100 [] [.fptr true [.v (.int .i64 v3)] 0,.fptr true [.func 83 [] [.fptr true [.list 1 (v4.map e_c)] 0]] 0]],[]⟩:=by
 unfold gK at hr
 have T:=@e_c.eq_1
 apply Spec.fn Try.func65 rfl
 focus (simp[Try.f65]<;>exact rfl)
 focus
  refine wb_ T (g:=?_)
  cases hr
  refine⟨.inr rfl,_,(ry T),?_⟩
  exact wr [] rfl .nil
 rfl
def y3:=an @ag32 <| @ag4
theorem aG{v1:Bool}{v2:Int}{v3:Int}(hr:aA v1 v2=some (v3)):Spec (lim Try.prog) 98 [.fptr true [.v (.bool v1)] 0,.fptr true [.v (.int .i64 v2)] 0] ⟨[.v (.int .i64 v3)],[]⟩:=by
 unfold aA at hr
 have T:=y3
 apply Spec.fn Try.func98 rfl
 focus (simp[Try.f98]<;>exact rfl)
 focus
  refine wA T (g:=?_)
  rcases ifs hr with⟨h1,hr⟩|⟨h1,hr⟩
  ·have T:=an h1 T
   refine wA T (g:=?_)
   cases hr
   refine⟨.inr rfl,_,(ry T),?_⟩
   exact wk_ T [] rfl .nil
  ·have T:=an h1 T
   refine wa_ T (g:=?_)
   cases hr
   refine⟨.inr rfl,_,(ry T),?_⟩
   exact wk_ T [] rfl .nil
 rfl
def y4:=an @Hz <| @ex129
theorem tF{v1:Nat}{v2:Nat}(hr:gV v1=some (v2)):Spec (lim Try.prog) 120 [.v (.float .f64 v1)] ⟨[.v (.float .f64 v2)],[]⟩:=by
 unfold gV at hr
 have T:=y4
 apply Spec.fn Try.func120 rfl
 focus (simp[Try.f120]<;>exact rfl)
 focus
  refine wa_ T (g:=?_)
  obtain⟨v3,h1,hr⟩:=bs hr
  apply TO.tr (wn T) rfl ex129 Hz (by simp only[z1,z3,zl]<;>rfl) h1
  repeat exact sd T
  refine wa_ T (g:=?_)
  cases hr
  refine⟨.inr rfl,_,(ry T),?_⟩
  exact wr [] rfl .nil
 rfl
def y5:=an @ex133 <| @ex97
theorem wM{v1:Nat}{v2:Nat}(hr:qE v1=some (v2)):Spec (lim Try.prog) 131 [.v (.float .f64 v1)] ⟨[.v (.float .f64 v2)],[]⟩:=by
 unfold qE at hr
 have T:=y5
 apply Spec.fn Try.func131 rfl
 focus (simp[Try.f131]<;>exact rfl)
 focus
  refine wa_ T (g:=?_)
  obtain⟨v3,h1,hr⟩:=bs hr
  apply TO.fb (wn T) rfl ex97 (by simp only[z1,z3,zl]<;>rfl) h1 rfl
  repeat exact sd T
  refine wa_ T (g:=?_)
  apply TO.pop1 (wn T) (Kg rfl rfl (by decide))
  repeat exact sd T
  refine wa_ T (g:=?_)
  apply TO.ex (wn T) rfl ex133 (by simp only[z1,z3,zl];exact rfl) rfl rfl (rfl) rfl rfl rfl
  repeat exact sd T
  refine wa_ T (g:=?_)
  cases hr
  refine⟨.inr rfl,_,(ry T),?_⟩
  exact wr [] rfl .nil
 rfl
theorem tQ{v1:Nat}{v2:Int}{v3:Bool}(hr:iU v1 v2=some (v3)):Spec (lim Try.prog) 121 [.v (.float .f64 v1),.v (.int .i64 v2)] ⟨[.v (.bool v3)],[]⟩:=by
 unfold iU at hr
 have T:=trivial
 apply Spec.fn Try.func121 rfl
 focus (simp[Try.f121]<;>exact rfl)
 focus
  refine wa_ T (g:=?_)
  rcases ifs hr with⟨h1,hr⟩|⟨h1,hr⟩
  ·have T:=an h1 T
   refine wa_ T (g:=?_)
   obtain⟨v4,h2,hr⟩:=bs hr
   apply TO.cal (wn T) rfl Lq (wM h2) rfl rfl rfl
   repeat exact sd T
   refine wa_ T (g:=?_)
   apply TO.pop1 (wn T) (dM rfl rfl (by decide))
   repeat exact sd T
   refine wa_ T (g:=?_)
   cases hr
   refine⟨.inr rfl,_,(ry T),?_⟩
   exact wk_ T [] rfl .nil
  ·have T:=an h1 T
   refine wa_ T (g:=?_)
   rcases ifs hr with⟨h3,hr⟩|⟨h3,hr⟩
   ·have T:=an h3 T
    refine wa_ T (g:=?_)
    apply TO.pop1 (wn T) (Ag rfl)
    repeat exact sd T
    refine wa_ T (g:=?_)
    apply TO.pop1 (wn T) (dM rfl rfl (by decide))
    repeat exact sd T
    refine wa_ T (g:=?_)
    cases hr
    refine⟨.inr rfl,_,(ry T),?_⟩
    exact wk_ T [] rfl .nil
   ·have T:=an h3 T
    refine wa_ T (g:=?_)
    apply TO.pop1 (wn T) (dM rfl rfl (by decide))
    repeat exact sd T
    refine wa_ T (g:=?_)
    cases hr
    refine⟨.inr rfl,_,(ry T),?_⟩
    exact wk_ T [] rfl .nil
 rfl
def y6:=an @un132 <| @un51
theorem kM{v1:Nat}{v2:Bool}(hr:eS v1=some (v2)):Spec (lim Try.prog) 112 [.v (.float .f32 v1)] ⟨[.v (.bool v2)],[]⟩:=by
 unfold eS at hr
 have T:=y6
 apply Spec.fn Try.func112 rfl
 focus (simp[Try.f112]<;>exact rfl)
 focus
  refine wa_ T (g:=?_)
  obtain⟨v3,h1,hr⟩:=bs hr
  apply TO.pop1 (wn T) (jP un51 un132 rfl h1)
  repeat exact sd T
  refine wa_ T (g:=?_)
  obtain⟨v4,h2,hr⟩:=bs hr
  apply TO.cal (wn T) rfl Lt (tF h2) rfl rfl rfl
  repeat exact sd T
  refine wa_ T (g:=?_)
  apply TO.pop1 (wn T) (dM rfl rfl (by decide))
  repeat exact sd T
  refine wa_ T (g:=?_)
  rcases ifs hr with⟨h3,hr⟩|⟨h3,hr⟩
  ·have T:=an h3 T
   refine wa_ T (g:=?_)
   obtain⟨v5,h4,hr⟩:=bs hr
   apply TO.cal (wn T) rfl Lw (tQ h4) rfl rfl rfl
   repeat exact sd T
   refine wa_ T (g:=?_)
   apply TO.pop1 (wn T) (bU rfl)
   repeat exact sd T
   refine wa_ T (g:=?_)
   cases hr
   refine⟨.inr rfl,_,(ry T),?_⟩
   exact wk_ T [] rfl .nil
  ·have T:=an h3 T
   refine wa_ T (g:=?_)
   cases hr
   refine⟨.inr rfl,_,(ry T),?_⟩
   exact wk_ T [] rfl .nil
 rfl
theorem bV{v1:Nat}{v2:Nat}{v3:Bool}(hr:aM v1 v2=some (v3)):Spec (lim Try.prog) 113 [.v (.float .f32 v1),.v (.float .f32 v2)] ⟨[.v (.bool v3)],[]⟩:=by
 unfold aM at hr
 have T:=trivial
 apply Spec.fn Try.func113 rfl
 focus (simp[Try.f113]<;>exact rfl)
 focus
  refine wa_ T (g:=?_)
  apply TO.pop1 (wn T) (Ag rfl)
  repeat exact sd T
  refine wa_ T (g:=?_)
  apply TO.pop1 (wn T) (dM rfl rfl (by decide))
  repeat exact sd T
  refine wa_ T (g:=?_)
  rcases ifs hr with⟨h1,hr⟩|⟨h1,hr⟩
  ·have T:=an h1 T
   refine wa_ T (g:=?_)
   apply TO.pop1 (wn T) (dM rfl rfl (by decide))
   repeat exact sd T
   refine wa_ T (g:=?_)
   cases hr
   refine⟨.inr rfl,_,(ry T),?_⟩
   exact wk_ T [] rfl .nil
  ·have T:=an h1 T
   refine wa_ T (g:=?_)
   cases hr
   refine⟨.inr rfl,_,(ry T),?_⟩
   exact wk_ T [] rfl .nil
 rfl
def y7:=an @ag80 <| an @cs80 <| an @ok80 <| an @so128 <| an @bH <| @lX
theorem cF{v1:Bool}{v2:Int}{v3:Bool}{v4:Int}{v5:Int}(hr:aN v1 v2 v3 v4=some (v5)):Spec (lim Try.prog) 33 [.list 1 [[.func 98 [] [.fptr true [.v (.bool v1)] 0,.fptr true [.v (.int .i64 v2)] 0]],[.func 98 [] [.fptr true [.v (.bool v3)] 0,.fptr true [.v (.int .i64 v4)] 0]]]] ⟨[.v (.int .i64 v5)],[]⟩:=by
 unfold aN at hr
 have T:=y7
 apply Spec.fn Try.func33 rfl
 focus (simp[Try.f33]<;>exact rfl)
 focus
  refine wc_ T (g:=?_)
  refine TX.unroll ?_
  repeat (first|(with_reducible first|refine mv ?_|refine TO.nil ?_)|((with_reducible first|apply TO.bin|apply TO.ia|apply TO.ld|apply TO.asg|apply TO.mv);(repeat (focus (show _=_;first|exact k1 rfl|exact k2 rfl|(simp only[zz,y7,Nat.reduceAdd,Nat.reduceMul,Nat.reduceLeDiff,Nat.reduceEqDiff,aB,z5,Int.reduceToNat,Int.reduceLE,Int.reduceLT,Int.cast_ofNat_Int,tload,aV,aS,List.getElem?_map]<;>exact rfl)|exact rfl)));(with_reducible apply TO.here))|((with_reducible apply TX.region);(focus (simp only[zl]<;>exact rfl));(focus rfl);(try dsimp only))|((with_reducible apply TX.cond_true);(focus rfl);(focus (first|rfl|(simp only[z1,zn];done))))|((with_reducible apply TX.cond_false);(focus rfl);(focus (first|rfl|(simp only[z1,zn];done))))|fail)
  obtain⟨v6,h1,hr⟩:=bs hr
  apply TO.cal (wn T) rfl kV (aG h1) rfl rfl rfl
  repeat exact sd T
  refine wa_ T (g:=?_)
  rcases ifs hr with⟨h2,hr⟩|⟨h2,hr⟩
  ·have T:=an h2 T
   refine wa_ T (g:=?_)
   cases hr
   refine⟨.inr rfl,_,(ry T),?_⟩
   exact wk_ T [] rfl .nil
  ·have T:=an h2 T
   refine wa_ T (g:=?_)
   refine TX.unroll ?_
   repeat (first|(with_reducible first|refine mv ?_|refine TO.nil ?_)|((with_reducible first|apply TO.bin|apply TO.ia|apply TO.ld|apply TO.asg|apply TO.mv);(repeat (focus (show _=_;first|exact k1 rfl|exact k2 rfl|(simp only[zz,y7,Nat.reduceAdd,Nat.reduceMul,Nat.reduceLeDiff,Nat.reduceEqDiff,aB,z5,Int.reduceToNat,Int.reduceLE,Int.reduceLT,Int.cast_ofNat_Int,tload,aV,aS,List.getElem?_map,h2]<;>exact rfl)|exact rfl)));(with_reducible apply TO.here))|((with_reducible apply TX.region);(focus (simp only[zl]<;>exact rfl));(focus rfl);(try dsimp only))|((with_reducible apply TX.cond_true);(focus rfl);(focus (first|rfl|(simp only[z1,zn,h2];done))))|((with_reducible apply TX.cond_false);(focus rfl);(focus (first|rfl|(simp only[z1,zn,h2];done))))|fail)
   obtain⟨v7,h3,hr⟩:=bs hr
   apply TO.cal (wn T) rfl kV (aG h3) rfl rfl rfl
   repeat exact sd T
   refine wa_ T (g:=?_)
   rcases ifs hr with⟨h4,hr⟩|⟨h4,hr⟩
   ·have T:=an h4 T
    refine wa_ T (g:=?_)
    cases hr
    refine⟨.inr rfl,_,(ry T),?_⟩
    exact wk_ T [] rfl .nil
   ·have T:=an h4 T
    refine wa_ T (g:=?_)
    refine TX.unroll ?_
    refine wa_ T (g:=?_)
    cases hr
    refine⟨.inr rfl,_,(ry T),?_⟩
    exact wk_ T [] rfl .nil
 rfl
end Go.Rex
namespace Go.Rex
open Go.Proofs
open Go Go.Rex Go.RowKit
set_option maxRecDepth 100000
set_option maxHeartbeats 1000000
def y8:=an @cs80 <| an @so128 <| @zc80
theorem pP{v1:Nat}{v2:Nat}{v3:Int}(hr:gH v1 v2=some (v3)):Spec (lim Try.prog) 84 [.v (.complex .f32 v1 v2)] ⟨[.v (.int .i64 v3)],[]⟩:=by
 unfold gH at hr
 have T:=y8
 apply Spec.fn Try.func84 rfl
 focus (simp[Try.f84]<;>exact rfl)
 focus
  refine wa_ T (g:=?_)
  apply TO.pop1 (wn T) (lS rfl)
  repeat exact sd T
  refine wa_ T (g:=?_)
  apply TO.pop1 (wn T) (lZ rfl)
  repeat exact sd T
  refine wa_ T (g:=?_)
  obtain⟨v4,h1,hr⟩:=bs hr
  apply TO.cal (wn T) rfl Eu (kM h1) rfl rfl rfl
  repeat exact sd T
  refine wa_ T (g:=?_)
  apply TO.pop1 (wn T) (bU rfl)
  repeat exact sd T
  refine wa_ T (g:=?_)
  rcases ifs hr with⟨h2,hr⟩|⟨h2,hr⟩
  ·have T:=an h2 T
   refine wa_ T (g:=?_)
   obtain⟨v5,h3,hr⟩:=bs hr
   apply TO.cal (wn T) rfl Eu (kM h3) rfl rfl rfl
   repeat exact sd T
   refine wa_ T (g:=?_)
   apply TO.pop1 (wn T) (bU rfl)
   repeat exact sd T
   refine wa_ T (g:=?_)
   obtain⟨⟨v6,v7⟩,h4,hr⟩:=bs hr
   try dsimp only at hr
   apply TO.cal (wn T) rfl gT (aH h4) rfl rfl rfl
   repeat exact sd T
   refine wa_ T (g:=?_)
   obtain⟨v8,h5,hr⟩:=bs hr
   apply TO.cal (wn T) rfl tW (bV h5) rfl rfl rfl
   repeat exact sd T
   refine wa_ T (g:=?_)
   apply TO.pop1 (wn T) (bU rfl)
   repeat exact sd T
   refine wa_ T (g:=?_)
   rcases ifs hr with⟨h6,hr⟩|⟨h6,hr⟩
   ·have T:=an h6 T
    refine wa_ T (g:=?_)
    obtain⟨v9,h7,hr⟩:=bs hr
    apply TO.cal (wn T) rfl tW (bV h7) rfl rfl rfl
    repeat exact sd T
    refine wa_ T (g:=?_)
    apply TO.pop1 (wn T) (bU rfl)
    repeat exact sd T
    refine wa_ T (g:=?_)
    obtain⟨⟨v10,v11⟩,h8,hr⟩:=bs hr
    try dsimp only at hr
    apply TO.cal (wn T) rfl gT (aH h8) rfl rfl rfl
    repeat exact sd T
    refine we_ T (g:=?_)
    obtain⟨v12,h9,hr⟩:=bs hr
    apply TO.cal (wn T) rfl nU (cF h9) rfl rfl rfl
    repeat exact sd T
    refine wa_ T (g:=?_)
    cases hr
    refine⟨.inr rfl,_,(ry T),?_⟩
    exact wk_ T [] rfl .nil
   ·have T:=an h6 T
    refine wa_ T (g:=?_)
    obtain⟨⟨v13,v14⟩,h10,hr⟩:=bs hr
    try dsimp only at hr
    apply TO.cal (wn T) rfl gT (aH h10) rfl rfl rfl
    repeat exact sd T
    refine we_ T (g:=?_)
    obtain⟨v15,h11,hr⟩:=bs hr
    apply TO.cal (wn T) rfl nU (cF h11) rfl rfl rfl
    repeat exact sd T
    refine wa_ T (g:=?_)
    cases hr
    refine⟨.inr rfl,_,(ry T),?_⟩
    exact wk_ T [] rfl .nil
  ·have T:=an h2 T
   refine wa_ T (g:=?_)
   obtain⟨⟨v16,v17⟩,h12,hr⟩:=bs hr
   try dsimp only at hr
   apply TO.cal (wn T) rfl gT (aH h12) rfl rfl rfl
   repeat exact sd T
   refine wa_ T (g:=?_)
   obtain⟨v18,h13,hr⟩:=bs hr
   apply TO.cal (wn T) rfl tW (bV h13) rfl rfl rfl
   repeat exact sd T
   refine wa_ T (g:=?_)
   apply TO.pop1 (wn T) (bU rfl)
   repeat exact sd T
   refine wa_ T (g:=?_)
   rcases ifs hr with⟨h14,hr⟩|⟨h14,hr⟩
   ·have T:=an h14 T
    refine wa_ T (g:=?_)
    obtain⟨v19,h15,hr⟩:=bs hr
    apply TO.cal (wn T) rfl tW (bV h15) rfl rfl rfl
    repeat exact sd T
    refine wa_ T (g:=?_)
    apply TO.pop1 (wn T) (bU rfl)
    repeat exact sd T
    refine wa_ T (g:=?_)
    obtain⟨⟨v20,v21⟩,h16,hr⟩:=bs hr
    try dsimp only at hr
    apply TO.cal (wn T) rfl gT (aH h16) rfl rfl rfl
    repeat exact sd T
    refine we_ T (g:=?_)
    obtain⟨v22,h17,hr⟩:=bs hr
    apply TO.cal (wn T) rfl nU (cF h17) rfl rfl rfl
    repeat exact sd T
    refine wa_ T (g:=?_)
    cases hr
    refine⟨.inr rfl,_,(ry T),?_⟩
    exact wk_ T [] rfl .nil
   ·have T:=an h14 T
    refine wa_ T (g:=?_)
    obtain⟨⟨v23,v24⟩,h18,hr⟩:=bs hr
    try dsimp only at hr
    apply TO.cal (wn T) rfl gT (aH h18) rfl rfl rfl
    repeat exact sd T
    refine we_ T (g:=?_)
    obtain⟨v25,h19,hr⟩:=bs hr
    apply TO.cal (wn T) rfl nU (cF h19) rfl rfl rfl
    repeat exact sd T
    refine wa_ T (g:=?_)
    cases hr
    refine⟨.inr rfl,_,(ry T),?_⟩
    exact wk_ T [] rfl .nil
 rfl
end Go.Rex
namespace Go.Rex
open Go.Proofs
open Go Go.Rex Go.RowKit
set_option maxRecDepth 100000
set_option maxHeartbeats 200000
def y9:=an @ag31 <| an @ag49 <| an @cs49 <| an @ok49 <| @so31
theorem jQ{v1:Int}{v2:(List (Nat×Nat))}{v3:Int}(hr:dG v1 v2=some (v3)):Spec (lim Try.prog) 83 [.v (.int .i64 v1),.fptr true [.list 1 (v2.map e_c)] 0] ⟨[.v (.int .i64 v3)],[]⟩:=by
 unfold dG at hr
 have T:=an y9 <| @e_c.eq_1
 apply Spec.fn Try.func83 rfl
 focus (simp[Try.f83]<;>exact rfl)
 focus
  refine wA T (g:=?_)
  obtain⟨⟨v4,v5⟩,h1,hr⟩:=bs hr
  try dsimp only at hr
  have T:=an (gx e_c h1) T
  refine wA T (g:=?_)
  obtain⟨v6,h2,hr⟩:=bs hr
  apply TO.cal (wn T) rfl Nm (pP h2) rfl rfl rfl
  repeat exact sd T
  refine wa_ T (g:=?_)
  cases hr
  refine⟨.inr rfl,_,(ry T),?_⟩
  exact wr [] rfl .nil
 rfl
def y10:=an @ag118 <| an @ag3 <| @bH
theorem mA{v1:Int}{v2:(List (Nat×Nat))}{v3:Int}(hr:fF v1 v2=some (v3)):Spec (lim Try.prog) 100 [.fptr true [.v (.int .i64 v1)] 0,.fptr true [.func 83 [] [.fptr true [.list 1 (v2.map e_c)] 0]] 0] ⟨[.v (.int .i64 v3)],[]⟩:=by
 unfold fF at hr
 have T:=an y10 <| @e_c.eq_1
 apply Spec.fn Try.func100 rfl
 focus (simp[Try.f100]<;>exact rfl)
 focus
  refine wA T (g:=?_)
  obtain⟨v8,h7,hr⟩:=bs hr
  refine TX.loopE (step:=aT v1 v2) (x:=0) h7 (fun v4=>⟨.Z::.fptr true [.func 83 [] [.fptr true [.list 1 (v2.map e_c)] 0]] 0::.Z::.Z::.Z::.v (.int .i64 v1)::.v (.int .i64 v4)::.Z::.Z::.Z::.Z::.Z::.Z::.Z::.Z::.Z::[],[]⟩) (fun e=>match e with|(.inl v6)=>(.ret,⟨.Z::.Z::.v (.int .i64 v6)::.Z::.Z::.Z::.Z::.Z::.Z::.Z::.Z::.Z::.Z::.Z::.Z::.Z::[],[]⟩)|(.inr _)=>(.exit 0,⟨.Z::.Z::.Z::.Z::.Z::.Z::.Z::.Z::.Z::.Z::.Z::.Z::.Z::.Z::.Z::.Z::[],[]⟩)) ?_ ?_ ?_ ?_
  ·rintro v4 v0 hr
   dsimp only[aT] at hr
   try dsimp only
   refine wa_ T (g:=?_)
   rcases ifs hr with⟨h4,hr⟩|⟨h4,hr⟩
   ·have T:=an h4 T
    refine wA T (g:=?_)
    obtain⟨v7,h5,hr⟩:=bs hr
    apply TO.cal (wn T) rfl Ng (jQ h5) rfl rfl rfl
    repeat exact sd T
    refine wa_ T (g:=?_)
    rcases ifs hr with⟨h6,hr⟩|⟨h6,hr⟩
    ·have T:=an h6 T
     refine wa_ T (g:=?_)
     cases hr
     refine⟨rfl,?_⟩
     exact wk_ T [] rfl .nil
    ·have T:=an h6 T
     refine wa_ T (g:=?_)
     cases hr
     refine⟨rfl,?_⟩
     exact wk_ T [] rfl .nil
   ·have T:=an h4 T
    refine wa_ T (g:=?_)
    cases hr
    refine⟨rfl,?_⟩
    exact wk_ T [] rfl .nil
  ·intro e h;rcases e with _|e<;>cases h
  ·try dsimp only
   rcases v8 with v9|_
   ·try dsimp only at hr
    try dsimp only
    refine wa_ T (g:=?_)
    cases hr
    refine⟨.inr rfl,_,(ry T),?_⟩
    exact wr [] rfl .nil
   ·try dsimp only at hr
    try dsimp only
    refine wa_ T (g:=?_)
    cases hr
    refine⟨.inr rfl,_,(ry T),?_⟩
    exact wr [] rfl .nil
  ·try dsimp only
   exact wr [] rfl .nil
 rfl
def y11:=an @ag80 <| an @cs80 <| an @ok80 <| an @so128 <| an @bH <| an @lX <| @uT
theorem kF{v1:Bool}{v2:Int}{v3:Bool}{v4:Int}{v5:Int}{v6:(List (Nat×Nat))}{v7:Int}(hr:dU v1 v2 v3 v4 v5 v6=some (v7)):Spec (lim Try.prog) 33 [.list 1 [[.func 98 [] [.fptr true [.v (.bool v1)] 0,.fptr true [.v (.int .i64 v2)] 0]],[.func 98 [] [.fptr true [.v (.bool v3)] 0,.fptr true [.v (.int .i64 v4)] 0]],[.func 100 [] [.fptr true [.v (.int .i64 v5)] 0,.fptr true [.func 83 [] [.fptr true [.list 1 (v6.map e_c)] 0]] 0]]]] ⟨[.v (.int .i64 v7)],[]⟩:=by
 unfold dU at hr
 have T:=an y11 <| @e_c.eq_1
 apply Spec.fn Try.func33 rfl
 focus (simp[Try.f33]<;>exact rfl)
 focus
  refine wc_ T (g:=?_)
  refine TX.unroll ?_
  repeat (first|(with_reducible first|refine mv ?_|refine TO.nil ?_)|((with_reducible first|apply TO.bin|apply TO.ia|apply TO.ld|apply TO.asg|apply TO.mv);(repeat (focus (show _=_;first|exact k1 rfl|exact k2 rfl|(simp only[zz,y11,e_c,Nat.reduceAdd,Nat.reduceMul,Nat.reduceLeDiff,Nat.reduceEqDiff,aB,z5,Int.reduceToNat,Int.reduceLE,Int.reduceLT,Int.cast_ofNat_Int,tload,aV,aS,List.getElem?_map]<;>exact rfl)|exact rfl)));(with_reducible apply TO.here))|((with_reducible apply TX.region);(focus (simp only[zl]<;>exact rfl));(focus rfl);(try dsimp only))|((with_reducible apply TX.cond_true);(focus rfl);(focus (first|rfl|(simp only[z1,zn];done))))|((with_reducible apply TX.cond_false);(focus rfl);(focus (first|rfl|(simp only[z1,zn];done))))|fail)
  obtain⟨v8,h1,hr⟩:=bs hr
  apply TO.cal (wn T) rfl kV (aG h1) rfl rfl rfl
  repeat exact sd T
  refine wa_ T (g:=?_)
  rcases ifs hr with⟨h2,hr⟩|⟨h2,hr⟩
  ·have T:=an h2 T
   refine wa_ T (g:=?_)
   cases hr
   refine⟨.inr rfl,_,(ry T),?_⟩
   exact wk_ T [] rfl .nil
  ·have T:=an h2 T
   refine wa_ T (g:=?_)
   refine TX.unroll ?_
   repeat (first|(with_reducible first|refine mv ?_|refine TO.nil ?_)|((with_reducible first|apply TO.bin|apply TO.ia|apply TO.ld|apply TO.asg|apply TO.mv);(repeat (focus (show _=_;first|exact k1 rfl|exact k2 rfl|(simp only[zz,y11,e_c,Nat.reduceAdd,Nat.reduceMul,Nat.reduceLeDiff,Nat.reduceEqDiff,aB,z5,Int.reduceToNat,Int.reduceLE,Int.reduceLT,Int.cast_ofNat_Int,tload,aV,aS,List.getElem?_map,h2]<;>exact rfl)|exact rfl)));(with_reducible apply TO.here))|((with_reducible apply TX.region);(focus (simp only[zl]<;>exact rfl));(focus rfl);(try dsimp only))|((with_reducible apply TX.cond_true);(focus rfl);(focus (first|rfl|(simp only[z1,zn,h2];done))))|((with_reducible apply TX.cond_false);(focus rfl);(focus (first|rfl|(simp only[z1,zn,h2];done))))|fail)
   obtain⟨v9,h3,hr⟩:=bs hr
   apply TO.cal (wn T) rfl kV (aG h3) rfl rfl rfl
   repeat exact sd T
   refine wa_ T (g:=?_)
   rcases ifs hr with⟨h4,hr⟩|⟨h4,hr⟩
   ·have T:=an h4 T
    refine wa_ T (g:=?_)
    cases hr
    refine⟨.inr rfl,_,(ry T),?_⟩
    exact wk_ T [] rfl .nil
   ·have T:=an h4 T
    refine wa_ T (g:=?_)
    refine TX.unroll ?_
    repeat (first|(with_reducible first|refine mv ?_|refine TO.nil ?_)|((with_reducible first|apply TO.bin|apply TO.ia|apply TO.ld|apply TO.asg|apply TO.mv);(repeat (focus (show _=_;first|exact k1 rfl|exact k2 rfl|(simp only[zz,y11,e_c,Nat.reduceAdd,Nat.reduceMul,Nat.reduceLeDiff,Nat.reduceEqDiff,aB,z5,Int.reduceToNat,Int.reduceLE,Int.reduceLT,Int.cast_ofNat_Int,tload,aV,aS,List.getElem?_map,h2,h4]<;>exact rfl)|exact rfl)));(with_reducible apply TO.here))|((with_reducible apply TX.region);(focus (simp only[zl]<;>exact rfl));(focus rfl);(try dsimp only))|((with_reducible apply TX.cond_true);(focus rfl);(focus (first|rfl|(simp only[z1,zn,h2,h4];done))))|((with_reducible apply TX.cond_false);(focus rfl);(focus (first|rfl|(simp only[z1,zn,h2,h4];done))))|fail)
    obtain⟨v10,h5,hr⟩:=bs hr
    apply TO.cal (wn T) rfl tR (mA h5) rfl rfl rfl
    repeat exact sd T
    refine wa_ T (g:=?_)
    rcases ifs hr with⟨h6,hr⟩|⟨h6,hr⟩
    ·have T:=an h6 T
     refine wa_ T (g:=?_)
     cases hr
     refine⟨.inr rfl,_,(ry T),?_⟩
     exact wk_ T [] rfl .nil
    ·have T:=an h6 T
     refine wa_ T (g:=?_)
     refine TX.unroll ?_
     refine wa_ T (g:=?_)
     cases hr
     refine⟨.inr rfl,_,(ry T),?_⟩
     exact wk_ T [] rfl .nil
 rfl
def y12:=an @ag31 <| an @cs80 <| an @so128 <| an @so31 <| @zc80
theorem gB{v1:(List (Nat×Nat))}{v2:Int}(hr:aY v1=some (v2)):Spec (lim Try.prog) 82 [.fptr true [.list 1 (v1.map e_c)] 0] ⟨[.v (.int .i64 v2)],[]⟩:=by
 unfold aY at hr
 have T:=an y12 <| @e_c.eq_1
 apply Spec.fn Try.func82 rfl
 focus (simp[Try.f82]<;>exact rfl)
 focus
  refine wC T (g:=?_)
  obtain⟨⟨v3,v4⟩,h1,hr⟩:=bs hr
  try dsimp only at hr
  apply TD.cal (wn T) rfl gT (aH h1) rfl rfl rfl
  repeat exact sd T
  refine wC T (g:=?_)
  obtain⟨⟨v5,v6⟩,h2,hr⟩:=bs hr
  try dsimp only at hr
  apply TD.cal (wn T) rfl gT (aH h2) rfl rfl rfl
  repeat exact sd T
  refine wC T (g:=?_)
  obtain⟨⟨v7,v8⟩,h3,hr⟩:=bs hr
  try dsimp only at hr
  apply TD.cal (wn T) rfl zU (nK h3) rfl rfl rfl
  repeat exact sd T
  refine we_ T (g:=?_)
  obtain⟨v9,h4,hr⟩:=bs hr
  apply TD.cal (wn T) rfl nU (kF h4) rfl rfl rfl
  repeat exact sd T
  refine wa_ T (g:=?_)
  cases hr
  refine⟨.inr rfl,_,(ry T),?_⟩
  exact wr [] rfl .nil
 rfl
def y13:=an @ag109 <| an @cs109 <| an @ok109 <| an @st109 <| an @un3 <| an @un51 <| @zc109
theorem gD{v1:Nat}{v2:Nat}{v3:Int}{v4:Int}(hr:bW v1 v2=some (v3,v4)):Spec (lim Try.prog) 67 [.v (.complex .f32 v1 v2)] ⟨[.agg [.v (.int .i64 v3),.v (.int .i64 v4)]],[]⟩:=by
 unfold bW at hr
 have T:=y13
 apply Spec.fn Try.func67 rfl
 focus (simp[Try.f67]<;>exact rfl)
 focus
  refine wa_ T (g:=?_)
  apply TO.pop1 (wn T) (lS rfl)
  repeat exact sd T
  refine wa_ T (g:=?_)
  obtain⟨v5,h1,hr⟩:=bs hr
  apply TO.pop1 (wn T) (gG un51 un3 rfl h1)
  repeat exact sd T
  refine wa_ T (g:=?_)
  apply TO.pop1 (wn T) (lZ rfl)
  repeat exact sd T
  refine wa_ T (g:=?_)
  obtain⟨v6,h2,hr⟩:=bs hr
  apply TO.pop1 (wn T) (gG un51 un3 rfl h2)
  repeat exact sd T
  refine wa_ T (g:=?_)
  cases hr
  refine⟨.inr rfl,_,(ry T),?_⟩
  exact wr [] rfl .nil
 rfl
theorem iC{v1:Int}{v2:Int}{v3:Bool}(hr:bP v1 v2=some (v3)):Spec (lim Try.prog) 101 [.v (.int .i64 v1),.v (.int .i64 v2)] ⟨[.v (.bool v3)],[]⟩:=by
 unfold bP at hr
 have T:=trivial
 apply Spec.fn Try.func101 rfl
 focus (simp[Try.f101]<;>exact rfl)
 focus
  refine wa_ T (g:=?_)
  apply TO.pop1 (wn T) (xZ rfl)
  repeat exact sd T
  refine wa_ T (g:=?_)
  rcases ifs hr with⟨h1,hr⟩|⟨h1,hr⟩
  ·have T:=an h1 T
   refine wa_ T (g:=?_)
   cases hr
   refine⟨.inr rfl,_,(ry T),?_⟩
   exact wk_ T [] rfl .nil
  ·have T:=an h1 T
   refine wa_ T (g:=?_)
   cases hr
   refine⟨.inr rfl,_,(ry T),?_⟩
   exact wk_ T [] rfl .nil
 rfl
def y14:=an @ag3 <| an @qL <| @qV
theorem gX{v1:Int}{v2:Int}{v3:Int}{v4:Bool}{v5:Int}(hr:bK v1 v2 v3=some (v4,v5)):Spec (lim Try.prog) 68 [.agg [.v (.int .i64 v1),.v (.int .i64 v2)],.v (.int .i64 v3)] ⟨[.func 98 [] [.fptr true [.v (.bool v4)] 0,.fptr true [.v (.int .i64 v5)] 0]],[]⟩:=by
 unfold bK at hr
 have T:=y14
 apply Spec.fn Try.func68 rfl
 focus (simp[Try.f68]<;>exact rfl)
 focus
  refine wB T (g:=?_)
  obtain⟨v6,h1,hr⟩:=bs hr
  apply TO.cal (wn T) rfl En (iC h1) rfl rfl rfl
  repeat exact sd T
  refine wa_ T (g:=?_)
  apply TO.pop1 (wn T) (bU rfl)
  repeat exact sd T
  refine wa_ T (g:=?_)
  rcases ifs hr with⟨h2,hr⟩|⟨h2,hr⟩
  ·have T:=an h2 T
   refine wA T (g:=?_)
   obtain⟨v7,h3,hr⟩:=bs hr
   apply TO.cal (wn T) rfl En (iC h3) rfl rfl rfl
   repeat exact sd T
   refine wa_ T (g:=?_)
   apply TO.pop1 (wn T) (bU rfl)
   repeat exact sd T
   refine wa_ T (g:=?_)
   obtain⟨⟨v8,v9⟩,h4,hr⟩:=bs hr
   try dsimp only at hr
   apply TO.cal (wn T) rfl gT (aH h4) rfl rfl rfl
   repeat exact sd T
   refine wa_ T (g:=?_)
   cases hr
   refine⟨.inr rfl,_,(ry T),?_⟩
   exact wk_ T [] rfl .nil
  ·have T:=an h2 T
   refine wa_ T (g:=?_)
   obtain⟨⟨v10,v11⟩,h5,hr⟩:=bs hr
   try dsimp only at hr
   apply TO.cal (wn T) rfl gT (aH h5) rfl rfl rfl
   repeat exact sd T
   refine wa_ T (g:=?_)
   cases hr
   refine⟨.inr rfl,_,(ry T),?_⟩
   exact wk_ T [] rfl .nil
 rfl
def y15:=an @ag31 <| an @ag49 <| an @cs49 <| an @ok49 <| @so31
theorem mB{v1:Int}{v2:(List (Nat×Nat))}{v3:Int}(hr:fC v1 v2=some (v3)):Spec (lim Try.prog) 66 [.v (.int .i64 v1),.fptr true [.list 1 (v2.map e_c)] 0] ⟨[.v (.int .i64 v3)],[]⟩:=by
 unfold fC at hr
 have T:=an y15 <| @e_c.eq_1
 apply Spec.fn Try.func66 rfl
 focus (simp[Try.f66]<;>exact rfl)
 focus
  refine wA T (g:=?_)
  obtain⟨⟨v4,v5⟩,h1,hr⟩:=bs hr
  try dsimp only at hr
  have T:=an (gx e_c h1) T
  refine wA T (g:=?_)
  obtain⟨⟨v6,v7⟩,h2,hr⟩:=bs hr
  try dsimp only at hr
  apply TO.cal (wn T) rfl Da (gD h2) rfl rfl rfl
  repeat exact sd T
  refine wa_ T (g:=?_)
  obtain⟨⟨v8,v9⟩,h3,hr⟩:=bs hr
  try dsimp only at hr
  apply TO.cal (wn T) rfl Jp (gX h3) rfl rfl rfl
  repeat exact sd T
  refine wa_ T (g:=?_)
  obtain⟨v10,h4,hr⟩:=bs hr
  apply TO.cal (wn T) rfl kV (aG h4) rfl rfl rfl
  repeat exact sd T
  refine wa_ T (g:=?_)
  cases hr
  refine⟨.inr rfl,_,(ry T),?_⟩
  exact wr [] rfl .nil
 rfl
def y16:=an @ag118 <| an @ag3 <| @bH
theorem lQ{v1:Int}{v2:(List (Nat×Nat))}{v3:Int}(hr:dP v1 v2=some (v3)):Spec (lim Try.prog) 100 [.fptr true [.v (.int .i64 v1)] 0,.fptr true [.func 66 [] [.fptr true [.list 1 (v2.map e_c)] 0]] 0] ⟨[.v (.int .i64 v3)],[]⟩:=by
 unfold dP at hr
 have T:=an y16 <| @e_c.eq_1
 apply Spec.fn Try.func100 rfl
 focus (simp[Try.f100]<;>exact rfl)
 focus
  refine wA T (g:=?_)
  obtain⟨v8,h7,hr⟩:=bs hr
  refine TX.loopE (step:=bQ v1 v2) (x:=0) h7 (fun v4=>⟨.Z::.fptr true [.func 66 [] [.fptr true [.list 1 (v2.map e_c)] 0]] 0::.Z::.Z::.Z::.v (.int .i64 v1)::.v (.int .i64 v4)::.Z::.Z::.Z::.Z::.Z::.Z::.Z::.Z::.Z::[],[]⟩) (fun e=>match e with|(.inl v6)=>(.ret,⟨.Z::.Z::.v (.int .i64 v6)::.Z::.Z::.Z::.Z::.Z::.Z::.Z::.Z::.Z::.Z::.Z::.Z::.Z::[],[]⟩)|(.inr _)=>(.exit 0,⟨.Z::.Z::.Z::.Z::.Z::.Z::.Z::.Z::.Z::.Z::.Z::.Z::.Z::.Z::.Z::.Z::[],[]⟩)) ?_ ?_ ?_ ?_
  ·rintro v4 v0 hr
   dsimp only[bQ] at hr
   try dsimp only
   refine wa_ T (g:=?_)
   rcases ifs hr with⟨h4,hr⟩|⟨h4,hr⟩
   ·have T:=an h4 T
    refine wA T (g:=?_)
    obtain⟨v7,h5,hr⟩:=bs hr
    apply TO.cal (wn T) rfl Np (mB h5) rfl rfl rfl
    repeat exact sd T
    refine wa_ T (g:=?_)
    rcases ifs hr with⟨h6,hr⟩|⟨h6,hr⟩
    ·have T:=an h6 T
     refine wa_ T (g:=?_)
     cases hr
     refine⟨rfl,?_⟩
     exact wk_ T [] rfl .nil
    ·have T:=an h6 T
     refine wa_ T (g:=?_)
     cases hr
     refine⟨rfl,?_⟩
     exact wk_ T [] rfl .nil
   ·have T:=an h4 T
    refine wa_ T (g:=?_)
    cases hr
    refine⟨rfl,?_⟩
    exact wk_ T [] rfl .nil
  ·intro e h;rcases e with _|e<;>cases h
  ·try dsimp only
   rcases v8 with v9|_
   ·try dsimp only at hr
    try dsimp only
    refine wa_ T (g:=?_)
    cases hr
    refine⟨.inr rfl,_,(ry T),?_⟩
    exact wr [] rfl .nil
   ·try dsimp only at hr
    try dsimp only
    refine wa_ T (g:=?_)
    cases hr
    refine⟨.inr rfl,_,(ry T),?_⟩
    exact wr [] rfl .nil
  ·try dsimp only
   exact wr [] rfl .nil
 rfl
def y17:=an @ag80 <| an @cs80 <| an @ok80 <| an @so128 <| an @bH <| an @lX <| @uT
theorem kA{v1:(List (Nat×Nat))}{v2:Bool}{v3:Int}{v4:Int}{v5:(List (Nat×Nat))}{v6:Int}(hr:dT v1 v2 v3 v4 v5=some (v6)):Spec (lim Try.prog) 33 [.list 1 [[.func 82 [] [.fptr true [.list 1 (v1.map e_c)] 0]],[.func 98 [] [.fptr true [.v (.bool v2)] 0,.fptr true [.v (.int .i64 v3)] 0]],[.func 100 [] [.fptr true [.v (.int .i64 v4)] 0,.fptr true [.func 66 [] [.fptr true [.list 1 (v5.map e_c)] 0]] 0]]]] ⟨[.v (.int .i64 v6)],[]⟩:=by
 unfold dT at hr
 have T:=an y17 <| @e_c.eq_1
 apply Spec.fn Try.func33 rfl
 focus (simp[Try.f33]<;>exact rfl)
 focus
  refine wc_ T (g:=?_)
  refine TX.unroll ?_
  repeat (first|(with_reducible first|refine mv ?_|refine TO.nil ?_)|((with_reducible first|apply TO.bin|apply TO.ia|apply TO.ld|apply TO.asg|apply TO.mv);(repeat (focus (show _=_;first|exact k1 rfl|exact k2 rfl|(simp only[zz,y17,e_c,Nat.reduceAdd,Nat.reduceMul,Nat.reduceLeDiff,Nat.reduceEqDiff,aB,z5,Int.reduceToNat,Int.reduceLE,Int.reduceLT,Int.cast_ofNat_Int,tload,aV,aS,List.getElem?_map]<;>exact rfl)|exact rfl)));(with_reducible apply TO.here))|((with_reducible apply TX.region);(focus (simp only[zl]<;>exact rfl));(focus rfl);(try dsimp only))|((with_reducible apply TX.cond_true);(focus rfl);(focus (first|rfl|(simp only[z1,zn];done))))|((with_reducible apply TX.cond_false);(focus rfl);(focus (first|rfl|(simp only[z1,zn];done))))|fail)
  obtain⟨v7,h1,hr⟩:=bs hr
  apply TO.cal (wn T) rfl Kc (gB h1) rfl rfl rfl
  repeat exact sd T
  refine wa_ T (g:=?_)
  rcases ifs hr with⟨h2,hr⟩|⟨h2,hr⟩
  ·have T:=an h2 T
   refine wa_ T (g:=?_)
   cases hr
   refine⟨.inr rfl,_,(ry T),?_⟩
   exact wk_ T [] rfl .nil
  ·have T:=an h2 T
   refine wa_ T (g:=?_)
   refine TX.unroll ?_
   repeat (first|(with_reducible first|refine mv ?_|refine TO.nil ?_)|((with_reducible first|apply TO.bin|apply TO.ia|apply TO.ld|apply TO.asg|apply TO.mv);(repeat (focus (show _=_;first|exact k1 rfl|exact k2 rfl|(simp only[zz,y17,e_c,Nat.reduceAdd,Nat.reduceMul,Nat.reduceLeDiff,Nat.reduceEqDiff,aB,z5,Int.reduceToNat,Int.reduceLE,Int.reduceLT,Int.cast_ofNat_Int,tload,aV,aS,List.getElem?_map,h2]<;>exact rfl)|exact rfl)));(with_reducible apply TO.here))|((with_reducible apply TX.region);(focus (simp only[zl]<;>exact rfl));(focus rfl);(try dsimp only))|((with_reducible apply TX.cond_true);(focus rfl);(focus (first|rfl|(simp only[z1,zn,h2];done))))|((with_reducible apply TX.cond_false);(focus rfl);(focus (first|rfl|(simp only[z1,zn,h2];done))))|fail)
   obtain⟨v8,h3,hr⟩:=bs hr
   apply TO.cal (wn T) rfl kV (aG h3) rfl rfl rfl
   repeat exact sd T
   refine wa_ T (g:=?_)
   rcases ifs hr with⟨h4,hr⟩|⟨h4,hr⟩
   ·have T:=an h4 T
    refine wa_ T (g:=?_)
    cases hr
    refine⟨.inr rfl,_,(ry T),?_⟩
    exact wk_ T [] rfl .nil
   ·have T:=an h4 T
    refine wa_ T (g:=?_)
    refine TX.unroll ?_
    repeat (first|(with_reducible first|refine mv ?_|refine TO.nil ?_)|((with_reducible first|apply TO.bin|apply TO.ia|apply TO.ld|apply TO.asg|apply TO.mv);(repeat (focus (show _=_;first|exact k1 rfl|exact k2 rfl|(simp only[zz,y17,e_c,Nat.reduceAdd,Nat.reduceMul,Nat.reduceLeDiff,Nat.reduceEqDiff,aB,z5,Int.reduceToNat,Int.reduceLE,Int.reduceLT,Int.cast_ofNat_Int,tload,aV,aS,List.getElem?_map,h2,h4]<;>exact rfl)|exact rfl)));(with_reducible apply TO.here))|((with_reducible apply TX.region);(focus (simp only[zl]<;>exact rfl));(focus rfl);(try dsimp only))|((with_reducible apply TX.cond_true);(focus rfl);(focus (first|rfl|(simp only[z1,zn,h2,h4];done))))|((with_reducible apply TX.cond_false);(focus rfl);(focus (first|rfl|(simp only[z1,zn,h2,h4];done))))|fail)
    obtain⟨v9,h5,hr⟩:=bs hr
    apply TO.cal (wn T) rfl tR (lQ h5) rfl rfl rfl
    repeat exact sd T
    refine wa_ T (g:=?_)
    rcases ifs hr with⟨h6,hr⟩|⟨h6,hr⟩
    ·have T:=an h6 T
     refine wa_ T (g:=?_)
     cases hr
     refine⟨.inr rfl,_,(ry T),?_⟩
     exact wk_ T [] rfl .nil
    ·have T:=an h6 T
     refine wa_ T (g:=?_)
     refine TX.unroll ?_
     refine wa_ T (g:=?_)
     cases hr
     refine⟨.inr rfl,_,(ry T),?_⟩
     exact wk_ T [] rfl .nil
 rfl
def y18:=an @ag49 <| an @by109 <| an @cs109 <| an @cs49 <| an @ni84 <| an @ok49 <| an @so31 <| an @so84 <| an @zc109 <| @bH
theorem nP{v1:(List (Nat×Nat))}{v2:(List (Int×Int))}(hr:cN v1=some (v2)):Spec (lim Try.prog) 38 [.list 1 (v1.map e_c)] ⟨[.lsl 0 0 v2.length],[.rows 2 (v2.map e_ii)]⟩:=by
 unfold cN at hr
 have T:=an y18 <| an @e_c.eq_1 <| @e_ii.eq_1
 apply Spec.fn Try.func38 rfl
 focus (simp[Try.f38]<;>exact rfl)
 focus
  refine wc_ T (g:=?_)
  apply TX.vt (α:=(Int×Int)) e_ii 3 2 rfl
  repeat exact sd T
  with_reducible apply TX.here
  refine wa_ T (g:=?_)
  obtain⟨v16,h9,hr⟩:=bs hr
  refine TX.loopE (step:=bL v1) (x:=(([]:List (Int×Int)),0)) h9 (fun (v3,v4)=>⟨.Z::.Z::.Z::.lsl 0 0 v3.length::.Z::.Z::.list 1 (v1.map e_c)::.v (.int .i64 (v1.length:Int))::.v (.int .i64 v4)::.Z::.Z::.Z::.Z::.Z::.Z::.Z::.Z::.Z::.Z::[],[.rows 2 (v3.map e_ii)]⟩) (fun v10=>(.exit 0,⟨.Z::.Z::.Z::.lsl 0 0 v10.length::.Z::.Z::.Z::.Z::.Z::.Z::.Z::.Z::.Z::.Z::.Z::.Z::.Z::.Z::.Z::[],[.rows 2 (v10.map e_ii)]⟩)) ?_ ?_ ?_ ?_
  ·rintro⟨v3,v4⟩ v0 hr
   dsimp only[bL] at hr
   try dsimp only
   refine wa_ T (g:=?_)
   rcases ifs hr with⟨h5,hr⟩|⟨h5,hr⟩
   ·have T:=an h5 T
    refine wa_ T (g:=?_)
    obtain⟨⟨v11,v12⟩,h6,hr⟩:=bs hr
    try dsimp only at hr
    have h6m:=cR (f:=e_c) h6
    have h6l:=cV h6
    try simp only[List.length_set] at h6l
    have h6a:=dE h6
    have T:=an h6m T
    have T:=an h6l T
    have T:=an h6a T
    refine wA T (g:=?_)
    obtain⟨⟨v13,v14⟩,h7,hr⟩:=bs hr
    try dsimp only at hr
    apply TO.cal (wn T) rfl Da (gD h7) rfl rfl rfl
    repeat exact sd T
    refine wa_ T (g:=?_)
    apply TO.bm e_ii ([(v13,v14)]:List (Int×Int)) (wn T) rfl (by simp only[zz,y18,e_c,e_ii,Nat.reduceAdd,Nat.reduceMul,Nat.reduceLeDiff,Nat.reduceEqDiff,tslice,tparts,h5,h6m,h6l,h6a];exact rfl) rfl
    repeat exact sd T
    refine wa_ T (g:=?_)
    obtain⟨v15,h8,hr⟩:=bs hr
    apply TO.ap (f:=e_ii) (xs:=v3) (ys:=([(v13,v14)]:List (Int×Int))) (wn T) rfl rfl (by first|rfl|simp only[List.length_set]) rfl rfl so84 ni84 zc109 rfl (by rw[by109];exact h8) (fun _=>⟨rfl,rfl,rfl⟩)
    repeat exact sd T
    refine wa_ T (g:=?_)
    cases hr
    refine⟨rfl,?_⟩
    exact wk_ T [some 0] rfl (.rows .nil rfl rfl)
   ·have T:=an h5 T
    refine wa_ T (g:=?_)
    cases hr
    refine⟨rfl,?_⟩
    exact wk_ T [some 0] rfl (.rows .nil rfl rfl)
  ·intro e h;cases h
  ·try dsimp only
   refine wa_ T (g:=?_)
   cases hr
   refine⟨.inr rfl,_,(ry T),?_⟩
   exact wr [some 0] rfl (.rows .nil rfl rfl)
  ·try dsimp only
   exact wr [some 0] rfl (.rows .nil rfl rfl)
 rfl
end Go.Rex
namespace Go.Rex
open Go.Proofs
open Go Go.Rex Go.RowKit
set_option maxRecDepth 100000
set_option maxHeartbeats 1000000
def y19:=an @ag109 <| an @ag3 <| an @ag31 <| an @ag56 <| an @ag58 <| an @ag59 <| an @ar59 <| an @by51 <| an @cs109 <| an @cs51 <| an @cs56 <| an @cs58 <| an @cs59 <| an @cs80 <| an @qL <| an @qV <| an @Cy <| an @ni56 <| an @ok109 <| an @ok56 <| an @ok58 <| an @ok59 <| an @so128 <| an @so31 <| an @so56 <| an @so84 <| an @st58 <| an @st59 <| an @un3 <| an @un51 <| an @zc109 <| an @zc51 <| an @zc58 <| an @zc59 <| an @zc80 <| @bH
theorem nB{v1:(List (Nat×Nat))}{v2:Int}{v3:Int}{v4:(List Nat)}{v5:Int}{v6:(List Nat)}{v7:Int}(hr:iM v1 v2=some (v3,v4,v5,v6,v7)):Spec (lim Try.prog) 23 [.list 1 (v1.map e_c),.v (.int .i64 v2)] ⟨[.tuple [.agg [.v (.int .i64 v3),.lsl 0 0 v4.length,.v (.int .i64 v5),.lsl 1 0 v6.length],.v (.int .i64 v7)]],[.rows 1 (v4.map e_f),.rows 1 (v6.map e_f)]⟩:=by
 unfold iM at hr
 have T:=an y19 <| an @e_c.eq_1 <| an @e_f.eq_1 <| @e_ii.eq_1
 apply Spec.fn Try.func23 rfl
 focus (simp[Try.f23]<;>exact rfl)
 focus
  refine wB T (g:=?_)
  obtain⟨v8,h1,hr⟩:=bs hr
  apply TD.cal (wn T) rfl Ge (kU h1) rfl rfl rfl
  repeat exact sd T
  refine wa_ T (g:=?_)
  obtain⟨⟨v9,v10⟩,h2,hr⟩:=bs hr
  try dsimp only at hr
  apply TD.cal (wn T) rfl Mh (qF h2) rfl rfl rfl
  repeat exact sd T
  refine wC T (g:=?_)
  obtain⟨⟨v11,v12⟩,h3,hr⟩:=bs hr
  try dsimp only at hr
  apply TD.cal (wn T) rfl zU (nN h3) rfl rfl rfl
  repeat exact sd T
  refine we_ T (g:=?_)
  obtain⟨v13,h4,hr⟩:=bs hr
  apply TD.cal (wn T) rfl nU (kA h4) rfl rfl rfl
  repeat exact sd T
  refine wa_ T (g:=?_)
  rcases ifs hr with⟨h5,hr⟩|⟨h5,hr⟩
  ·have T:=an h5 T
   refine wa_ T (g:=?_)
   cases hr
   refine⟨.inr rfl,_,(ry T),?_⟩
   exact wk_ T [none,none] rfl (.virt (.virt .nil))
  ·have T:=an h5 T
   refine wA T (g:=?_)
   obtain⟨v14,h6,hr⟩:=bs hr
   apply TO.cal (wn T) rfl My (nP h6) rfl rfl rfl
   repeat exact sd T
   refine wc_ T (g:=?_)
   obtain⟨⟨v28,v29⟩,h15,hr⟩:=bs hr
   try dsimp only at hr
   refine TX.loopE (step:=eP v14) (x:=(([]:List Nat),([]:List Nat),0)) h15 (fun (v15,v16,v17)=>⟨.Z::.Z::.Z::.Z::.lptr 0 0 0::.Z::.Z::.lptr 1 0 0::.lptr 3 0 0::.Z::.Z::.Z::.Z::.Z::.Z::.Z::.Z::.Z::.Z::.Z::.Z::.Z::.Z::.Z::.Z::.Z::.Z::.Z::.Z::.Z::.lsl 5 0 v14.length::.v (.int .i64 (v14.length:Int))::.v (.int .i64 v17)::.Z::.Z::.Z::.Z::.Z::.Z::.Z::.Z::.Z::.Z::.Z::.Z::.Z::.Z::.Z::.Z::.Z::.Z::.Z::.Z::.Z::.Z::.Z::[],[.var [.v (.int .i64 0),.v (.slice none 0 0),.v (.int .i64 0),.v (.slice none 0 0)],.var [.v (.int .i64 v2),.lsl 2 0 v15.length],.rows 1 (v15.map e_f),.var [.v (.int .i64 v2),.lsl 4 0 v16.length],.rows 1 (v16.map e_f),.rows 2 (v14.map e_ii)]⟩) (fun (v22,v23)=>(.exit 0,⟨.Z::.Z::.Z::.Z::.lptr 0 0 0::.Z::.Z::.lptr 1 0 0::.lptr 3 0 0::.Z::.Z::.Z::.Z::.Z::.Z::.Z::.Z::.Z::.Z::.Z::.Z::.Z::.Z::.Z::.Z::.Z::.Z::.Z::.Z::.Z::.Z::.Z::.Z::.Z::.Z::.Z::.Z::.Z::.Z::.Z::.Z::.Z::.Z::.Z::.Z::.Z::.Z::.Z::.Z::.Z::.Z::.Z::.Z::.Z::.Z::.Z::[],[.var [.v (.int .i64 0),.v (.slice none 0 0),.v (.int .i64 0),.v (.slice none 0 0)],.var [.v (.int .i64 v2),.lsl 2 0 v22.length],.rows 1 (v22.map e_f),.var [.v (.int .i64 v2),.lsl 4 0 v23.length],.rows 1 (v23.map e_f)]⟩)) ?_ ?_ ?_ ?_
   ·rintro⟨v15,v16,v17⟩ v0 hr
    dsimp only[eP] at hr
    try dsimp only
    refine wa_ T (g:=?_)
    rcases ifs hr with⟨h11,hr⟩|⟨h11,hr⟩
    ·have T:=an h11 T
     refine wa_ T (g:=?_)
     obtain⟨⟨v24,v25⟩,h12,hr⟩:=bs hr
     try dsimp only at hr
     have h12m:=cR (f:=e_ii) h12
     have h12l:=cV h12
     try simp only[List.length_set] at h12l
     have h12a:=dE h12
     have T:=an h12m T
     have T:=an h12l T
     have T:=an h12a T
     refine wA T (g:=?_)
     apply TO.pop1 (wn T) (cX un3 un51 rfl)
     repeat exact sd T
     refine wa_ T (g:=?_)
     apply TO.bm e_f ([(FloatKind.f32.nearest v24)]:List Nat) (wn T) rfl (by simp only[zz,y19,e_c,e_f,e_ii,Nat.reduceAdd,Nat.reduceMul,Nat.reduceLeDiff,Nat.reduceEqDiff,tslice,tparts,h5,h11,h12m,h12l,h12a];exact rfl) rfl
     repeat exact sd T
     refine wa_ T (g:=?_)
     obtain⟨v26,h13,hr⟩:=bs hr
     apply TO.ap (f:=e_f) (xs:=v15) (ys:=([(FloatKind.f32.nearest v24)]:List Nat)) (wn T) rfl rfl (by first|rfl|simp only[List.length_set]) rfl rfl so56 ni56 zc51 rfl (by rw[by51];exact h13) (fun _=>⟨rfl,rfl,rfl⟩)
     repeat exact sd T
     refine wA T (g:=?_)
     apply TO.pop1 (wn T) (cX un3 un51 rfl)
     repeat exact sd T
     refine wa_ T (g:=?_)
     apply TO.bm e_f ([(FloatKind.f32.nearest v25)]:List Nat) (wn T) rfl (by simp only[zz,y19,e_c,e_f,e_ii,Nat.reduceAdd,Nat.reduceMul,Nat.reduceLeDiff,Nat.reduceEqDiff,tslice,tparts,h5,h11,h12m,h12l,h12a];exact rfl) rfl
     repeat exact sd T
     refine wa_ T (g:=?_)
     obtain⟨v27,h14,hr⟩:=bs hr
     apply TO.ap (f:=e_f) (xs:=v16) (ys:=([(FloatKind.f32.nearest v25)]:List Nat)) (wn T) rfl rfl (by first|rfl|simp only[List.length_set]) rfl rfl so56 ni56 zc51 rfl (by rw[by51];exact h14) (fun _=>⟨rfl,rfl,rfl⟩)
     repeat exact sd T
     refine wa_ T (g:=?_)
     cases hr
     refine⟨rfl,?_⟩
     exact wk_ T [some 0,some 1,some 2,some 3,some 4,some 5] rfl (rv (rv (.rows (rv (.rows (.rows .nil rfl rfl) rfl rfl) rfl) rfl rfl) rfl) rfl)
    ·have T:=an h11 T
     refine wa_ T (g:=?_)
     cases hr
     refine⟨rfl,?_⟩
     exact wk_ T [some 0,some 1,some 2,some 3,some 4] rfl (rv (rv (.rows (rv (.rows .nil rfl rfl) rfl) rfl rfl) rfl) rfl)
   ·intro e h;cases h
   ·try dsimp only
    refine wA T (g:=?_)
    cases hr
    refine⟨.inr rfl,_,(ry T),?_⟩
    exact wk_ T [some 2,some 4] rfl (.rows (.rows .nil rfl rfl) rfl rfl)
   ·try dsimp only
    exact wk_ T [some 0,some 1,none,some 2,none,some 3] rfl (rv (rv (.virt (rv (.virt (.rows .nil rfl rfl)) rfl)) rfl) rfl)
 rfl
def y20:=an @un132 <| @un3
theorem kS{v1:Nat}{v2:Bool}(hr:bX v1=some (v2)):Spec (lim Try.prog) 92 [.v (.float .f64 v1)] ⟨[.v (.bool v2)],[]⟩:=by
 unfold bX at hr
 have T:=y20
 apply Spec.fn Try.func92 rfl
 focus (simp[Try.f92]<;>exact rfl)
 focus
  refine wa_ T (g:=?_)
  apply TO.pop1 (wn T) (dM rfl rfl (by decide))
  repeat exact sd T
  refine wa_ T (g:=?_)
  rcases ifs hr with⟨h1,hr⟩|⟨h1,hr⟩
  ·have T:=an h1 T
   refine wa_ T (g:=?_)
   cases hr
   refine⟨.inr rfl,_,(ry T),?_⟩
   exact wk_ T [] rfl .nil
  ·have T:=an h1 T
   refine wa_ T (g:=?_)
   obtain⟨v3,h2,hr⟩:=bs hr
   apply TO.pop1 (wn T) (Cw rfl rfl (by decide) (h2))
   repeat exact sd T
   refine wa_ T (g:=?_)
   apply TO.pop1 (wn T) (dM rfl rfl (by decide))
   repeat exact sd T
   refine wa_ T (g:=?_)
   rcases ifs hr with⟨h3,hr⟩|⟨h3,hr⟩
   ·have T:=an h3 T
    refine wa_ T (g:=?_)
    cases hr
    refine⟨.inr rfl,_,(ry T),?_⟩
    exact wk_ T [] rfl .nil
   ·have T:=an h3 T
    refine wa_ T (g:=?_)
    apply TO.pop1 (wn T) (dM rfl rfl (by decide))
    repeat exact sd T
    refine wa_ T (g:=?_)
    rcases ifs hr with⟨h4,hr⟩|⟨h4,hr⟩
    ·have T:=an h4 T
     refine wa_ T (g:=?_)
     apply TO.pop1 (wn T) (dM rfl rfl (by decide))
     repeat exact sd T
     refine wa_ T (g:=?_)
     apply TO.pop1 (wn T) (bU rfl)
     repeat exact sd T
     refine wa_ T (g:=?_)
     rcases ifs hr with⟨h5,hr⟩|⟨h5,hr⟩
     ·have T:=an h5 T
      refine wa_ T (g:=?_)
      obtain⟨v4,h6,hr⟩:=bs hr
      apply TO.pop1 (wn T) (gG un132 un3 rfl h6)
      repeat exact sd T
      refine wa_ T (g:=?_)
      apply TO.pop1 (wn T) (cX un3 un132 rfl)
      repeat exact sd T
      refine wa_ T (g:=?_)
      apply TO.pop1 (wn T) (dM rfl rfl (by decide))
      repeat exact sd T
      refine wa_ T (g:=?_)
      cases hr
      refine⟨.inr rfl,_,(ry T),?_⟩
      exact wk_ T [] rfl .nil
     ·have T:=an h5 T
      refine wa_ T (g:=?_)
      cases hr
      refine⟨.inr rfl,_,(ry T),?_⟩
      exact wk_ T [] rfl .nil
    ·have T:=an h4 T
     refine wa_ T (g:=?_)
     apply TO.pop1 (wn T) (bU rfl)
     repeat exact sd T
     refine wa_ T (g:=?_)
     cases hr
     refine⟨.inr rfl,_,(ry T),?_⟩
     exact wk_ T [] rfl .nil
 rfl
def y21:=an @ag49 <| an @cs49 <| an @ok49 <| an @so31 <| an @un132 <| an @un51 <| @bH
theorem kJ{v1:(List (Nat×Nat))}{v2:Int}(hr:dL v1=some (v2)):Spec (lim Try.prog) 46 [.list 1 (v1.map e_c)] ⟨[.v (.int .i64 v2)],[]⟩:=by
 unfold dL at hr
 have T:=an y21 <| @e_c.eq_1
 apply Spec.fn Try.func46 rfl
 focus (simp[Try.f46]<;>exact rfl)
 focus
  refine wc_ T (g:=?_)
  rcases ifs hr with⟨h1,hr⟩|⟨h1,hr⟩
  ·have T:=an h1 T
   refine wa_ T (g:=?_)
   cases hr
   refine⟨.inr rfl,_,(ry T),?_⟩
   exact wk_ T [] rfl .nil
  ·have T:=an h1 T
   refine wc_ T (g:=?_)
   rcases ifs hr with⟨h2,hr⟩|⟨h2,hr⟩
   ·have T:=an h2 T
    refine wa_ T (g:=?_)
    cases hr
    refine⟨.inr rfl,_,(ry T),?_⟩
    exact wk_ T [] rfl .nil
   ·have T:=an h2 T
    refine wa_ T (g:=?_)
    obtain⟨v17,h27,hr⟩:=bs hr
    refine TX.loopE (step:=cU v1) (x:=0) h27 (fun v3=>⟨.list 1 (v1.map e_c)::.Z::.Z::.v (.int .i64 v3)::.Z::.Z::.Z::.Z::.Z::.Z::.Z::.Z::.Z::.Z::.Z::.Z::.Z::.Z::.Z::.Z::.Z::.Z::.Z::.Z::.Z::.Z::.Z::.Z::.Z::.Z::.Z::.Z::.Z::.Z::.Z::.Z::.Z::.Z::.Z::.Z::.Z::.Z::.Z::.Z::.Z::.Z::.Z::.Z::.Z::.Z::.Z::.Z::[],[]⟩) (fun e=>match e with|(.inl v10)=>(.ret,⟨.Z::.Z::.v (.int .i64 v10)::.Z::.Z::.Z::.Z::.Z::.Z::.Z::.Z::.Z::.Z::.Z::.Z::.Z::.Z::.Z::.Z::.Z::.Z::.Z::.Z::.Z::.Z::.Z::.Z::.Z::.Z::.Z::.Z::.Z::.Z::.Z::.Z::.Z::.Z::.Z::.Z::.Z::.Z::.Z::.Z::.Z::.Z::.Z::.Z::.Z::.Z::.Z::.Z::.Z::[],[]⟩)|(.inr _)=>(.exit 0,⟨.Z::.Z::.Z::.Z::.Z::.Z::.Z::.Z::.Z::.Z::.Z::.Z::.Z::.Z::.Z::.Z::.Z::.Z::.Z::.Z::.Z::.Z::.Z::.Z::.Z::.Z::.Z::.Z::.Z::.Z::.Z::.Z::.Z::.Z::.Z::.Z::.Z::.Z::.Z::.Z::.Z::.Z::.Z::.Z::.Z::.Z::.Z::.Z::.Z::.Z::.Z::.Z::[],[]⟩)) ?_ ?_ ?_ ?_
    ·rintro v3 v0 hr
     dsimp only[cU] at hr
     try dsimp only
     refine wc_ T (g:=?_)
     rcases ifs hr with⟨h15,hr⟩|⟨h15,hr⟩
     ·have T:=an h15 T
      refine wa_ T (g:=?_)
      obtain⟨⟨v11,v12⟩,h16,hr⟩:=bs hr
      try dsimp only at hr
      have T:=an (gx e_c h16) T
      refine wA T (g:=?_)
      apply TD.pop1 (wn T) (lS rfl)
      repeat exact sd T
      refine wa_ T (g:=?_)
      obtain⟨v13,h17,hr⟩:=bs hr
      apply TD.pop1 (wn T) (jP un51 un132 rfl h17)
      repeat exact sd T
      refine wA T (g:=?_)
      apply TD.pop1 (wn T) (lZ rfl)
      repeat exact sd T
      refine wa_ T (g:=?_)
      obtain⟨v14,h18,hr⟩:=bs hr
      apply TD.pop1 (wn T) (jP un51 un132 rfl h18)
      repeat exact sd T
      refine wa_ T (g:=?_)
      obtain⟨v15,h19,hr⟩:=bs hr
      apply TO.cal (wn T) rfl Je (kS h19) rfl rfl rfl
      repeat exact sd T
      refine wa_ T (g:=?_)
      apply TO.pop1 (wn T) (bU rfl)
      repeat exact sd T
      refine wa_ T (g:=?_)
      rcases ifs hr with⟨h20,hr⟩|⟨h20,hr⟩
      ·have T:=an h20 T
       refine wa_ T (g:=?_)
       obtain⟨v16,h21,hr⟩:=bs hr
       apply TO.cal (wn T) rfl Je (kS h21) rfl rfl rfl
       repeat exact sd T
       refine wa_ T (g:=?_)
       apply TO.pop1 (wn T) (bU rfl)
       repeat exact sd T
       refine wa_ T (g:=?_)
       rcases ifs hr with⟨h22,hr⟩|⟨h22,hr⟩
       ·have T:=an h22 T
        refine wa_ T (g:=?_)
        apply TO.pop1 (wn T) (dM rfl rfl (by decide))
        repeat exact sd T
        refine wa_ T (g:=?_)
        rcases ifs hr with⟨h23,hr⟩|⟨h23,hr⟩
        ·have T:=an h23 T
         refine wa_ T (g:=?_)
         cases hr
         refine⟨rfl,?_⟩
         exact wk_ T [] rfl .nil
        ·have T:=an h23 T
         refine wa_ T (g:=?_)
         apply TO.pop1 (wn T) (dM rfl rfl (by decide))
         repeat exact sd T
         refine wa_ T (g:=?_)
         rcases ifs hr with⟨h24,hr⟩|⟨h24,hr⟩
         ·have T:=an h24 T
          refine wa_ T (g:=?_)
          cases hr
          refine⟨rfl,?_⟩
          exact wk_ T [] rfl .nil
         ·have T:=an h24 T
          refine wa_ T (g:=?_)
          apply TO.pop1 (wn T) (dM rfl rfl (by decide))
          repeat exact sd T
          refine wa_ T (g:=?_)
          rcases ifs hr with⟨h25,hr⟩|⟨h25,hr⟩
          ·have T:=an h25 T
           refine wa_ T (g:=?_)
           cases hr
           refine⟨rfl,?_⟩
           exact wk_ T [] rfl .nil
          ·have T:=an h25 T
           refine wa_ T (g:=?_)
           apply TO.pop1 (wn T) (dM rfl rfl (by decide))
           repeat exact sd T
           refine wa_ T (g:=?_)
           rcases ifs hr with⟨h26,hr⟩|⟨h26,hr⟩
           ·have T:=an h26 T
            refine wa_ T (g:=?_)
            cases hr
            refine⟨rfl,?_⟩
            exact wk_ T [] rfl .nil
           ·have T:=an h26 T
            refine wa_ T (g:=?_)
            cases hr
            refine⟨rfl,?_⟩
            exact wk_ T [] rfl .nil
       ·have T:=an h22 T
        refine wa_ T (g:=?_)
        cases hr
        refine⟨rfl,?_⟩
        exact wk_ T [] rfl .nil
      ·have T:=an h20 T
       refine wa_ T (g:=?_)
       cases hr
       refine⟨rfl,?_⟩
       exact wk_ T [] rfl .nil
     ·have T:=an h15 T
      refine wa_ T (g:=?_)
      cases hr
      refine⟨rfl,?_⟩
      exact wk_ T [] rfl .nil
    ·intro e h;rcases e with _|e<;>cases h
    ·try dsimp only
     rcases v17 with v18|_
     ·try dsimp only at hr
      try dsimp only
      refine wa_ T (g:=?_)
      cases hr
      refine⟨.inr rfl,_,(ry T),?_⟩
      exact wk_ T [] rfl .nil
     ·try dsimp only at hr
      try dsimp only
      refine wa_ T (g:=?_)
      cases hr
      refine⟨.inr rfl,_,(ry T),?_⟩
      exact wk_ T [] rfl .nil
    ·try dsimp only
     exact wk_ T [] rfl .nil
 rfl
end Go.Rex
namespace Go.Rex
open Go.Proofs
open Go Go.Rex Go.RowKit
set_option maxRecDepth 100000
set_option maxHeartbeats 200000
theorem mD{v1:Int}{v2:Int}{v3:Int}{v4:Bool}(hr:cY v1 v2 v3=some (v4)):Spec (lim Try.prog) 20 [.v (.int .i64 v1),.v (.int .i64 v2),.v (.int .i64 v3)] ⟨[.v (.bool v4)],[]⟩:=by
 unfold cY at hr
 have T:=trivial
 apply Spec.fn Try.func20 rfl
 focus (simp[Try.f20]<;>exact rfl)
 focus
  refine wa_ T (g:=?_)
  rcases ifs hr with⟨h1,hr⟩|⟨h1,hr⟩
  ·have T:=an h1 T
   refine wa_ T (g:=?_)
   cases hr
   refine⟨.inr rfl,_,(ry T),?_⟩
   exact wk_ T [] rfl .nil
  ·have T:=an h1 T
   refine wa_ T (g:=?_)
   cases hr
   refine⟨.inr rfl,_,(ry T),?_⟩
   exact wk_ T [] rfl .nil
 rfl
def y22:=an @ag49 <| an @ar47 <| an @by47 <| an @cs3 <| an @cs47 <| an @cs49 <| an @ni46 <| an @ok3 <| an @ok49 <| an @so31 <| an @so46 <| an @st47 <| an @un3 <| an @un51 <| an @zc47 <| @bH
theorem lT{v1:(List (Nat×Nat))}{v2:(List (Int×Int))}(hr:eY v1=some (v2)):Spec (lim Try.prog) 49 [.list 1 (v1.map e_c)] ⟨[.lsl 0 0 v2.length],[.rows 2 (v2.map e_ii)]⟩:=by
 unfold eY at hr
 have T:=an y22 <| an @e_c.eq_1 <| @e_ii.eq_1
 apply Spec.fn Try.func49 rfl
 focus (simp[Try.f49]<;>exact rfl)
 focus
  refine wa_ T (g:=?_)
  apply TX.vt (α:=(Int×Int)) e_ii 3 2 rfl
  repeat exact sd T
  with_reducible apply TX.here
  refine wa_ T (g:=?_)
  obtain⟨v16,h11,hr⟩:=bs hr
  refine TX.loopE (step:=fR v1) (x:=(([]:List (Int×Int)),0)) h11 (fun (v3,v4)=>⟨.list 1 (v1.map e_c)::.Z::.Z::.lsl 0 0 v3.length::.v (.int .i64 v4)::.Z::.Z::.Z::.Z::.Z::.Z::.Z::.Z::.Z::.Z::.Z::.Z::.Z::.Z::.Z::.Z::.Z::.Z::.Z::.Z::.Z::.Z::.Z::[],[.rows 2 (v3.map e_ii)]⟩) (fun v10=>(.exit 0,⟨.Z::.Z::.Z::.lsl 0 0 v10.length::.Z::.Z::.Z::.Z::.Z::.Z::.Z::.Z::.Z::.Z::.Z::.Z::.Z::.Z::.Z::.Z::.Z::.Z::.Z::.Z::.Z::.Z::.Z::.Z::[],[.rows 2 (v10.map e_ii)]⟩)) ?_ ?_ ?_ ?_
  ·rintro⟨v3,v4⟩ v0 hr
   dsimp only[fR] at hr
   try dsimp only
   refine wc_ T (g:=?_)
   rcases ifs hr with⟨h6,hr⟩|⟨h6,hr⟩
   ·have T:=an h6 T
    refine wa_ T (g:=?_)
    obtain⟨⟨v11,v12⟩,h7,hr⟩:=bs hr
    try dsimp only at hr
    have h7m:=cR (f:=e_c) h7
    have h7l:=cV h7
    try simp only[List.length_set] at h7l
    have h7a:=dE h7
    have T:=an h7m T
    have T:=an h7l T
    have T:=an h7a T
    refine wA T (g:=?_)
    apply TD.pop1 (wn T) (lS rfl)
    repeat exact sd T
    refine wa_ T (g:=?_)
    obtain⟨v13,h8,hr⟩:=bs hr
    apply TD.pop1 (wn T) (gG un51 un3 rfl h8)
    repeat exact sd T
    refine wA T (g:=?_)
    apply TD.pop1 (wn T) (lZ rfl)
    repeat exact sd T
    refine wa_ T (g:=?_)
    obtain⟨v14,h9,hr⟩:=bs hr
    apply TD.pop1 (wn T) (gG un51 un3 rfl h9)
    repeat exact sd T
    refine wa_ T (g:=?_)
    apply TD.bm e_ii ([(v13,v14)]:List (Int×Int)) (wn T) rfl (by simp only[zz,y22,e_c,e_ii,Nat.reduceAdd,Nat.reduceMul,Nat.reduceLeDiff,Nat.reduceEqDiff,tslice,tparts,h6,h7m,h7l,h7a];exact rfl) rfl
    repeat exact sd T
    refine wa_ T (g:=?_)
    obtain⟨v15,h10,hr⟩:=bs hr
    apply TD.ap (f:=e_ii) (xs:=v3) (ys:=([(v13,v14)]:List (Int×Int))) (wn T) rfl rfl (by first|rfl|simp only[List.length_set]) rfl rfl so46 ni46 zc47 rfl (by rw[by47];exact h10) (fun _=>⟨rfl,rfl,rfl⟩) rfl
    repeat exact sd T
    refine wa_ T (g:=?_)
    cases hr
    refine⟨rfl,?_⟩
    exact wk_ T [some 0] rfl (.rows .nil rfl rfl)
   ·have T:=an h6 T
    refine wa_ T (g:=?_)
    cases hr
    refine⟨rfl,?_⟩
    exact wk_ T [some 0] rfl (.rows .nil rfl rfl)
  ·intro e h;cases h
  ·try dsimp only
   refine wa_ T (g:=?_)
   cases hr
   refine⟨.inr rfl,_,(ry T),?_⟩
   exact wr [some 0] rfl (.rows .nil rfl rfl)
  ·try dsimp only
   exact wr [some 0] rfl (.rows .nil rfl rfl)
 rfl
def y23:=an @ag3 <| an @ar47 <| an @by3 <| an @cs3 <| an @cs47 <| an @ni24 <| an @ok3 <| an @ok47 <| an @so24 <| an @so46 <| an @so47 <| an @zc3 <| @bH
theorem mY{v1:(List (Int×Int))}{v2:Int}{v3:(List Int)}(hr:fX v1 v2=some (v3)):Spec (lim Try.prog) 69 [.list 2 (v1.map e_ii),.v (.int .i64 v2)] ⟨[.lsl 0 0 v3.length],[.rows 1 (v3.map e_i)]⟩:=by
 unfold fX at hr
 have T:=an y23 <| an @e_i.eq_1 <| @e_ii.eq_1
 apply Spec.fn Try.func69 rfl
 focus (simp[Try.f69]<;>exact rfl)
 focus
  refine wa_ T (g:=?_)
  apply TX.vt (α:=Int) e_i 5 1 rfl
  repeat exact sd T
  with_reducible apply TX.here
  refine wa_ T (g:=?_)
  obtain⟨v15,h9,hr⟩:=bs hr
  refine TX.loopE (step:=fM v1 v2) (x:=(([]:List Int),0)) h9 (fun (v4,v5)=>⟨.list 2 (v1.map e_ii)::.v (.int .i64 v2)::.Z::.Z::.Z::.lsl 0 0 v4.length::.v (.int .i64 v5)::.Z::.Z::.Z::.Z::.Z::.Z::.Z::.Z::.Z::.Z::.Z::.Z::.Z::.Z::.Z::.Z::[],[.rows 1 (v4.map e_i)]⟩) (fun v10=>(.exit 0,⟨.Z::.Z::.Z::.Z::.Z::.lsl 0 0 v10.length::.Z::.Z::.Z::.Z::.Z::.Z::.Z::.Z::.Z::.Z::.Z::.Z::.Z::.Z::.Z::.Z::.Z::[],[.rows 1 (v10.map e_i)]⟩)) ?_ ?_ ?_ ?_
  ·rintro⟨v4,v5⟩ v0 hr
   dsimp only[fM] at hr
   try dsimp only
   refine wc_ T (g:=?_)
   rcases ifs hr with⟨h5,hr⟩|⟨h5,hr⟩
   ·have T:=an h5 T
    refine wa_ T (g:=?_)
    obtain⟨⟨v11,v12⟩,h6,hr⟩:=bs hr
    try dsimp only at hr
    have h6m:=cR (f:=e_ii) h6
    have h6l:=cV h6
    try simp only[List.length_set] at h6l
    have h6a:=dE h6
    have T:=an h6m T
    have T:=an h6l T
    have T:=an h6a T
    refine wa_ T (g:=?_)
    obtain⟨v13,h7,hr⟩:=bs hr
    have h7l:=cV h7
    refine wa_ T (g:=?_)
    have T:=an h7l T
    apply TO.pop1 (wn T) (iaP (xs:=([v11,v12]:List Int)) h7 rfl rfl so47 ar47 rfl ok3 cs3)
    repeat exact sd T
    refine wa_ T (g:=?_)
    apply TO.ld (wn T) rfl (No (p:=.v (.int .i64 v13)) (fo:=0) (f:=e_i) (xs:=([v11,v12]:List Int)) h7 rfl (fun _=>rfl) rfl (by simp only[aS,zz,y23,e_i,e_ii,Nat.reduceAdd,Nat.reduceMul,Nat.reduceLeDiff,Nat.reduceEqDiff,h5,h6m,h6l,h6a,h7l]<;>exact rfl))
    repeat exact sd T
    refine wa_ T (g:=?_)
    apply TO.bm e_i ([v13]:List Int) (wn T) rfl (by simp only[zz,y23,e_i,e_ii,Nat.reduceAdd,Nat.reduceMul,Nat.reduceLeDiff,Nat.reduceEqDiff,tslice,tparts,h5,h6m,h6l,h6a,h7l];exact rfl) rfl
    repeat exact sd T
    refine wa_ T (g:=?_)
    obtain⟨v14,h8,hr⟩:=bs hr
    apply TO.ap (f:=e_i) (xs:=v4) (ys:=([v13]:List Int)) (wn T) rfl rfl (by first|rfl|simp only[List.length_set]) rfl rfl so24 ni24 zc3 rfl (by rw[by3];exact h8) (fun _=>⟨rfl,rfl,rfl⟩)
    repeat exact sd T
    refine wa_ T (g:=?_)
    cases hr
    refine⟨rfl,?_⟩
    exact wk_ T [some 0] rfl (.rows .nil rfl rfl)
   ·have T:=an h5 T
    refine wa_ T (g:=?_)
    cases hr
    refine⟨rfl,?_⟩
    exact wk_ T [some 0] rfl (.rows .nil rfl rfl)
  ·intro e h;cases h
  ·try dsimp only
   refine wa_ T (g:=?_)
   cases hr
   refine⟨.inr rfl,_,(ry T),?_⟩
   exact wr [some 0] rfl (.rows .nil rfl rfl)
  ·try dsimp only
   exact wr [some 0] rfl (.rows .nil rfl rfl)
 rfl
def y24:=an @ag3 <| an @cs3 <| an @ok3 <| an @so24 <| @bH
theorem jR{v1:(List Int)}{v2:Int}{v3:Int}(hr:eW v1 v2=some (v3)):Spec (lim Try.prog) 70 [.list 1 (v1.map e_i),.v (.int .i64 v2)] ⟨[.v (.int .i64 v3)],[]⟩:=by
 unfold eW at hr
 have T:=an y24 <| @e_i.eq_1
 apply Spec.fn Try.func70 rfl
 focus (simp[Try.f70]<;>exact rfl)
 focus
  refine wa_ T (g:=?_)
  obtain⟨v9,h9,hr⟩:=bs hr
  refine TX.loopE (step:=dF v1 v2) (x:=0) h9 (fun v4=>⟨.list 1 (v1.map e_i)::.v (.int .i64 v2)::.Z::.Z::.Z::.v (.int .i64 v4)::.Z::.Z::.Z::.Z::.Z::.Z::.Z::.Z::.Z::.Z::.Z::.Z::.Z::.Z::.Z::[],[]⟩) (fun e=>match e with|(.inl _)=>(.ret,⟨.Z::.Z::.Z::.Z::.v (.int .i64 2)::.Z::.Z::.Z::.Z::.Z::.Z::.Z::.Z::.Z::.Z::.Z::.Z::.Z::.Z::.Z::.Z::[],[]⟩)|(.inr _)=>(.exit 0,⟨.Z::.Z::.Z::.Z::.Z::.Z::.Z::.Z::.Z::.Z::.Z::.Z::.Z::.Z::.Z::.Z::.Z::.Z::.Z::.Z::.Z::[],[]⟩)) ?_ ?_ ?_ ?_
  ·rintro v4 v0 hr
   dsimp only[dF] at hr
   try dsimp only
   refine wc_ T (g:=?_)
   rcases ifs hr with⟨h5,hr⟩|⟨h5,hr⟩
   ·have T:=an h5 T
    refine wa_ T (g:=?_)
    obtain⟨v7,h6,hr⟩:=bs hr
    have T:=an (gx e_i h6) T
    refine wA T (g:=?_)
    apply TO.pop1 (wn T) (xZ rfl)
    repeat exact sd T
    refine wa_ T (g:=?_)
    obtain⟨v8,h7,hr⟩:=bs hr
    apply TO.cal (wn T) rfl Gi (mD h7) rfl rfl rfl
    repeat exact sd T
    refine wa_ T (g:=?_)
    apply TO.pop1 (wn T) (bU rfl)
    repeat exact sd T
    refine wa_ T (g:=?_)
    rcases ifs hr with⟨h8,hr⟩|⟨h8,hr⟩
    ·have T:=an h8 T
     refine wa_ T (g:=?_)
     cases hr
     refine⟨rfl,?_⟩
     exact wk_ T [] rfl .nil
    ·have T:=an h8 T
     refine wa_ T (g:=?_)
     cases hr
     refine⟨rfl,?_⟩
     exact wk_ T [] rfl .nil
   ·have T:=an h5 T
    refine wa_ T (g:=?_)
    cases hr
    refine⟨rfl,?_⟩
    exact wk_ T [] rfl .nil
  ·intro e h;rcases e with _|e<;>cases h
  ·try dsimp only
   rcases v9 with _|_
   ·try dsimp only at hr
    try dsimp only
    refine wa_ T (g:=?_)
    cases hr
    refine⟨.inr rfl,_,(ry T),?_⟩
    exact wr [] rfl .nil
   ·try dsimp only at hr
    try dsimp only
    refine wa_ T (g:=?_)
    cases hr
    refine⟨.inr rfl,_,(ry T),?_⟩
    exact wr [] rfl .nil
  ·try dsimp only
   exact wr [] rfl .nil
 rfl
end Go.Rex
namespace Go.Rex
open Go.Proofs
open Go Go.Rex Go.RowKit
set_option maxRecDepth 100000
set_option maxHeartbeats 1000000
def y25:=an @ag3 <| an @ag56 <| an @ag59 <| an @ar59 <| an @by51 <| an @cs3 <| an @cs51 <| an @cs56 <| an @cs58 <| an @cs59 <| an @Hi <| an @Cy <| an @ni56 <| an @ok3 <| an @ok56 <| an @ok58 <| an @ok59 <| an @so24 <| an @so56 <| an @so59 <| an @st59 <| an @un3 <| an @un51 <| an @zc51 <| an @zc59 <| an @bH <| @lX
theorem nC{v1:(List (Nat×Nat))}{v2:Int}{v3:Int}{v4:(List Nat)}{v5:Int}{v6:(List Nat)}{v7:Int}(hr:iN v1 v2=some (v3,v4,v5,v6,v7)):Spec (lim Try.prog) 24 [.list 1 (v1.map e_c),.v (.int .i64 v2)] ⟨[.tuple [.agg [.v (.int .i64 v3),.lsl 0 0 v4.length,.v (.int .i64 v5),.lsl 1 0 v6.length],.v (.int .i64 v7)]],[.rows 1 (v4.map e_f),.rows 1 (v6.map e_f)]⟩:=by
 unfold iN at hr
 have T:=an y25 <| an @e_c.eq_1 <| an @e_f.eq_1 <| an @e_i.eq_1 <| @e_ii.eq_1
 apply Spec.fn Try.func24 rfl
 focus (simp[Try.f24]<;>exact rfl)
 focus
  refine wa_ T (g:=?_)
  obtain⟨v8,h1,hr⟩:=bs hr
  apply TO.cal (wn T) rfl Jv (kJ h1) rfl rfl rfl
  repeat exact sd T
  refine wa_ T (g:=?_)
  rcases ifs hr with⟨h2,hr⟩|⟨h2,hr⟩
  ·have T:=an h2 T
   refine wA T (g:=?_)
   cases hr
   refine⟨.inr rfl,_,(ry T),?_⟩
   exact wk_ T [none,none] rfl (.virt (.virt .nil))
  ·have T:=an h2 T
   refine wa_ T (g:=?_)
   obtain⟨v9,h3,hr⟩:=bs hr
   apply TO.cal (wn T) rfl Gi (mD h3) rfl rfl rfl
   repeat exact sd T
   refine wa_ T (g:=?_)
   apply TO.pop1 (wn T) (bU rfl)
   repeat exact sd T
   refine wa_ T (g:=?_)
   rcases ifs hr with⟨h4,hr⟩|⟨h4,hr⟩
   ·have T:=an h4 T
    refine wa_ T (g:=?_)
    obtain⟨v10,h5,hr⟩:=bs hr
    apply TO.cal (wn T) rfl Hd (lT h5) rfl rfl rfl
    repeat exact sd T
    refine wa_ T (g:=?_)
    refine TX.unroll ?_
    refine wa_ T (g:=?_)
    obtain⟨v11,h6,hr⟩:=bs hr
    apply TO.lok (wn T) rfl Jj (mY h6) (vw T) rfl rfl (by simp[jM,cl,e_ff,e_c,e_ii,e_i,e_Lc_,e_f])
    repeat exact sd T
    refine wa_ T (g:=?_)
    obtain⟨v12,h7,hr⟩:=bs hr
    apply TO.lok (wn T) rfl Jm (jR h7) (vw T) rfl rfl (by simp[jM,cl,e_ff,e_c,e_ii,e_i,e_Lc_,e_f])
    repeat exact sd T
    refine wa_ T (g:=?_)
    rcases ifs hr with⟨h8,hr⟩|⟨h8,hr⟩
    ·have T:=an h8 T
     refine wa_ T (g:=?_)
     cases hr
     refine⟨.inr rfl,_,(ry T),?_⟩
     exact wk_ T [none,none] rfl (.virt (.virt .nil))
    ·repeat (first|(with_reducible first|refine mv ?_|refine TO.nil ?_)|((with_reducible first|apply TO.mv|apply TO.ia|apply TO.fa|apply TO.sv|apply TO.asg);(repeat (focus (show _=_;first|exact k1 rfl|exact k2 rfl|(simp only[zz,y25,e_c,e_f,e_i,e_ii,Nat.reduceAdd,Nat.reduceMul,Nat.reduceLeDiff,Nat.reduceEqDiff,aB,z5,Int.reduceToNat,Int.reduceLE,Int.reduceLT,Int.cast_ofNat_Int,aK,h2,h4,h8]<;>exact rfl)|exact rfl)));(with_reducible apply TO.here))|((with_reducible apply TX.region);(focus (simp only[zl]<;>exact rfl));(focus rfl);(try dsimp only))|((with_reducible apply TX.cond_true);(focus rfl);(focus (first|rfl|(simp only[z1,zn,h2,h4,h8];done))))|((with_reducible apply TX.cond_false);(focus rfl);(focus (first|rfl|(simp only[z1,zn,h2,h4,h8];done))))|fail)
     obtain⟨v20,h15,hr⟩:=bs hr
     refine TX.loopE (step:=eT v11) (x:=(([]:List Nat),0)) h15 (fun (v13,v14)=>⟨.Z::.v (.int .i64 v2)::.Z::.Z::.lptr 0 0 0::.Z::.lptr 1 0 0::.Z::.lsl 3 0 v10.length::.v (.int .i64 0)::.lsl 4 0 v11.length::.v (.int .i64 v14)::.Z::.Z::.Z::.Z::.Z::.Z::.Z::.Z::.Z::.Z::.Z::.Z::.Z::.Z::.Z::.Z::.Z::.Z::.Z::.Z::.Z::.Z::.Z::.Z::.Z::.Z::.Z::.Z::.Z::.Z::.Z::.Z::.Z::.Z::.Z::.Z::.Z::.Z::.Z::.Z::.Z::.Z::.Z::.Z::.Z::.Z::.Z::.Z::[],[.var [.v (.int .i64 0),.v (.slice none 0 0),.v (.int .i64 0),.v (.slice none 0 0)],.var [.v (.int .i64 v2),.lsl 2 0 v13.length,.v (.int .i64 0),.v (.slice none 0 0)],.rows 1 (v13.map e_f),.rows 2 (v10.map e_ii),.rows 1 (v11.map e_i)]⟩) (fun v17=>(.exit 2,⟨.Z::.v (.int .i64 v2)::.Z::.Z::.lptr 0 0 0::.Z::.lptr 1 0 0::.Z::.lsl 3 0 v10.length::.v (.int .i64 0)::.Z::.Z::.Z::.Z::.Z::.Z::.Z::.Z::.Z::.Z::.Z::.Z::.Z::.Z::.Z::.Z::.Z::.Z::.Z::.Z::.Z::.Z::.Z::.Z::.Z::.Z::.Z::.Z::.Z::.Z::.Z::.Z::.Z::.Z::.Z::.Z::.Z::.Z::.Z::.Z::.Z::.Z::.Z::.Z::.Z::.Z::.Z::.Z::.Z::.Z::[],[.var [.v (.int .i64 0),.v (.slice none 0 0),.v (.int .i64 0),.v (.slice none 0 0)],.var [.v (.int .i64 v2),.lsl 2 0 v17.length,.v (.int .i64 0),.v (.slice none 0 0)],.rows 1 (v17.map e_f),.rows 2 (v10.map e_ii)]⟩)) ?_ ?_ ?_ ?_
     ·rintro⟨v13,v14⟩ v0 hr
      dsimp only[eT] at hr
      try dsimp only
      have T:=an h8 T
      refine wc_ T (g:=?_)
      rcases ifs hr with⟨h12,hr⟩|⟨h12,hr⟩
      ·repeat (first|(with_reducible first|refine mv ?_|refine TD.nil ?_)|((with_reducible first|apply TD.mv|apply TD.ia|apply TD.fa|apply TD.ld );(repeat (focus (show _=_;first|exact k1 rfl|exact k2 rfl|(simp only[zz,y25,e_c,e_f,e_i,e_ii,Nat.reduceAdd,Nat.reduceMul,Nat.reduceLeDiff,Nat.reduceEqDiff,aB,z5,Int.reduceToNat,Int.reduceLE,Int.reduceLT,Int.cast_ofNat_Int,aK,tload,aV,aS,List.getElem?_map,h2,h4,h8,h12]<;>exact rfl)|exact rfl)));(with_reducible refine TD.here ?_))|((with_reducible apply TX.drawn);(focus decide +kernel);(focus (simp only[zl]<;>exact rfl));(focus exact rfl);(try dsimp only))|((with_reducible apply TX.cond_true);(focus rfl);(focus (first|rfl|(simp only[z1,zn,h2,h4,h8,h12];done))))|((with_reducible apply TX.cond_false);(focus rfl);(focus (first|rfl|(simp only[z1,zn,h2,h4,h8,h12];done))))|fail)
       obtain⟨v18,h13,hr⟩:=bs hr
       have h13m:=cR (f:=e_i) h13
       have h13l:=cV h13
       try simp only[List.length_set] at h13l
       have h13a:=dE h13
       have T:=an h12 T
       have T:=an h13m T
       have T:=an h13l T
       have T:=an h13a T
       refine wA T (g:=?_)
       apply TD.pop1 (wn T) (cX un3 un51 rfl)
       repeat exact sd T
       refine wa_ T (g:=?_)
       apply TD.bm e_f ([(FloatKind.f32.nearest v18)]:List Nat) (wn T) rfl (by simp only[zz,y25,e_c,e_f,e_i,e_ii,Nat.reduceAdd,Nat.reduceMul,Nat.reduceLeDiff,Nat.reduceEqDiff,tslice,tparts,h2,h4,h8,h12,h13m,h13l,h13a];exact rfl) rfl
       repeat exact sd T
       refine wa_ T (g:=?_)
       obtain⟨v19,h14,hr⟩:=bs hr
       apply TD.ap (f:=e_f) (xs:=v13) (ys:=([(FloatKind.f32.nearest v18)]:List Nat)) (wn T) rfl rfl (by first|rfl|simp only[List.length_set]) rfl rfl so56 ni56 zc51 rfl (by rw[by51];exact h14) (fun _=>⟨rfl,rfl,rfl⟩) rfl
       repeat exact sd T
       repeat (first|(with_reducible first|refine mv ?_|refine TO.nil ?_)|((with_reducible first|apply TO.mv|apply TO.bin|apply TO.asg);(repeat (focus (show _=_;first|exact k1 rfl|exact k2 rfl|(simp only[zz,y25,e_c,e_f,e_i,e_ii,Nat.reduceAdd,Nat.reduceMul,Nat.reduceLeDiff,Nat.reduceEqDiff,h2,h4,h8,h12,h13m,h13l,h13a]<;>exact rfl)|exact rfl)));(with_reducible apply TO.here))|((with_reducible apply TX.region);(focus (simp only[zl]<;>exact rfl));(focus rfl);(try dsimp only))|with_reducible refine TD.nil ?_|((with_reducible first|apply TD.ia|apply TD.fa|apply TD.sv);(repeat (focus (show _=_;first|exact k1 rfl|exact k2 rfl|(simp only[zz,y25,e_c,e_f,e_i,e_ii,Nat.reduceAdd,Nat.reduceMul,Nat.reduceLeDiff,Nat.reduceEqDiff,aB,z5,Int.reduceToNat,Int.reduceLE,Int.reduceLT,Int.cast_ofNat_Int,aK,h2,h4,h8,h12,h13m,h13l,h13a]<;>exact rfl)|exact rfl)));(with_reducible refine TD.here ?_))|((with_reducible apply TX.drawn);(focus decide +kernel);(focus (simp only[zl]<;>exact rfl));(focus exact rfl);(try dsimp only))|fail)
       cases hr
       refine⟨rfl,?_⟩
       exact wk_ T [some 0,some 1,some 2,some 3,some 4] rfl (rv (rv (.rows (.rows (.rows .nil rfl rfl) rfl rfl) rfl rfl) rfl) rfl)
      ·have T:=an h12 T
       refine wa_ T (g:=?_)
       cases hr
       refine⟨rfl,?_⟩
       exact wk_ T [some 0,some 1,some 2,some 3] rfl (rv (rv (.rows (.rows .nil rfl rfl) rfl rfl) rfl) rfl)
     ·intro e h;cases h
     ·try dsimp only
      have T:=an h8 T
      refine wa_ T (g:=?_)
      refine TX.unroll ?_
      refine wa_ T (g:=?_)
      obtain⟨v21,h16,hr⟩:=bs hr
      apply TO.lok (wn T) rfl Jj (mY h16) (vw T) rfl rfl (by simp[jM,cl,e_ff,e_c,e_ii,e_i,e_Lc_,e_f])
      repeat exact sd T
      refine wa_ T (g:=?_)
      obtain⟨v22,h17,hr⟩:=bs hr
      apply TO.lok (wn T) rfl Jm (jR h17) (vw T) rfl rfl (by simp[jM,cl,e_ff,e_c,e_ii,e_i,e_Lc_,e_f])
      repeat exact sd T
      refine wa_ T (g:=?_)
      rcases ifs hr with⟨h18,hr⟩|⟨h18,hr⟩
      ·have T:=an h18 T
       refine wa_ T (g:=?_)
       cases hr
       refine⟨.inr rfl,_,(ry T),?_⟩
       exact wk_ T [none,none] rfl (.virt (.virt .nil))
      ·repeat (first|(with_reducible first|refine mv ?_|refine TO.nil ?_)|((with_reducible first|apply TO.mv|apply TO.ia|apply TO.fa|apply TO.sv|apply TO.asg);(repeat (focus (show _=_;first|exact k1 rfl|exact k2 rfl|(simp only[zz,y25,e_c,e_f,e_i,e_ii,Nat.reduceAdd,Nat.reduceMul,Nat.reduceLeDiff,Nat.reduceEqDiff,aB,z5,Int.reduceToNat,Int.reduceLE,Int.reduceLT,Int.cast_ofNat_Int,aK,h2,h4,h8,h18]<;>exact rfl)|exact rfl)));(with_reducible apply TO.here))|((with_reducible apply TX.region);(focus (simp only[zl]<;>exact rfl));(focus rfl);(try dsimp only))|((with_reducible apply TX.cond_true);(focus rfl);(focus (first|rfl|(simp only[z1,zn,h2,h4,h8,h18];done))))|((with_reducible apply TX.cond_false);(focus rfl);(focus (first|rfl|(simp only[z1,zn,h2,h4,h8,h18];done))))|fail)
       obtain⟨v30,h25,hr⟩:=bs hr
       refine TX.loopE (step:=eQ v21) (x:=(([]:List Nat),0)) h25 (fun (v23,v24)=>⟨.Z::.v (.int .i64 v2)::.Z::.Z::.lptr 0 0 0::.Z::.lptr 1 0 0::.Z::.lsl 4 0 v10.length::.v (.int .i64 1)::.lsl 5 0 v21.length::.v (.int .i64 v24)::.Z::.Z::.Z::.Z::.Z::.Z::.Z::.Z::.Z::.Z::.Z::.Z::.Z::.Z::.Z::.Z::.Z::.Z::.Z::.Z::.Z::.Z::.Z::.Z::.Z::.Z::.Z::.Z::.Z::.Z::.Z::.Z::.Z::.Z::.Z::.Z::.Z::.Z::.Z::.Z::.Z::.Z::.Z::.Z::.Z::.Z::.Z::.Z::[],[.var [.v (.int .i64 0),.v (.slice none 0 0),.v (.int .i64 0),.v (.slice none 0 0)],.var [.v (.int .i64 v2),.lsl 2 0 v20.length,.v (.int .i64 v2),.lsl 3 0 v23.length],.rows 1 (v20.map e_f),.rows 1 (v23.map e_f),.rows 2 (v10.map e_ii),.rows 1 (v21.map e_i)]⟩) (fun v27=>(.exit 2,⟨.Z::.v (.int .i64 v2)::.Z::.Z::.lptr 0 0 0::.Z::.lptr 1 0 0::.Z::.lsl 4 0 v10.length::.v (.int .i64 1)::.Z::.Z::.Z::.Z::.Z::.Z::.Z::.Z::.Z::.Z::.Z::.Z::.Z::.Z::.Z::.Z::.Z::.Z::.Z::.Z::.Z::.Z::.Z::.Z::.Z::.Z::.Z::.Z::.Z::.Z::.Z::.Z::.Z::.Z::.Z::.Z::.Z::.Z::.Z::.Z::.Z::.Z::.Z::.Z::.Z::.Z::.Z::.Z::.Z::.Z::[],[.var [.v (.int .i64 0),.v (.slice none 0 0),.v (.int .i64 0),.v (.slice none 0 0)],.var [.v (.int .i64 v2),.lsl 2 0 v20.length,.v (.int .i64 v2),.lsl 3 0 v27.length],.rows 1 (v20.map e_f),.rows 1 (v27.map e_f),.rows 2 (v10.map e_ii)]⟩)) ?_ ?_ ?_ ?_
       ·rintro⟨v23,v24⟩ v0 hr
        dsimp only[eQ] at hr
        try dsimp only
        have T:=an h18 T
        refine wc_ T (g:=?_)
        rcases ifs hr with⟨h22,hr⟩|⟨h22,hr⟩
        ·repeat (first|(with_reducible first|refine mv ?_|refine TD.nil ?_)|((with_reducible first|apply TD.mv|apply TD.ia|apply TD.fa|apply TD.ld );(repeat (focus (show _=_;first|exact k1 rfl|exact k2 rfl|(simp only[zz,y25,e_c,e_f,e_i,e_ii,Nat.reduceAdd,Nat.reduceMul,Nat.reduceLeDiff,Nat.reduceEqDiff,aB,z5,Int.reduceToNat,Int.reduceLE,Int.reduceLT,Int.cast_ofNat_Int,aK,tload,aV,aS,List.getElem?_map,h2,h4,h8,h18,h22]<;>exact rfl)|exact rfl)));(with_reducible refine TD.here ?_))|((with_reducible apply TX.drawn);(focus decide +kernel);(focus (simp only[zl]<;>exact rfl));(focus exact rfl);(try dsimp only))|((with_reducible apply TX.cond_true);(focus rfl);(focus (first|rfl|(simp only[z1,zn,h2,h4,h8,h18,h22];done))))|((with_reducible apply TX.cond_false);(focus rfl);(focus (first|rfl|(simp only[z1,zn,h2,h4,h8,h18,h22];done))))|fail)
         obtain⟨v28,h23,hr⟩:=bs hr
         have h23m:=cR (f:=e_i) h23
         have h23l:=cV h23
         try simp only[List.length_set] at h23l
         have h23a:=dE h23
         have T:=an h22 T
         have T:=an h23m T
         have T:=an h23l T
         have T:=an h23a T
         refine wA T (g:=?_)
         apply TD.pop1 (wn T) (cX un3 un51 rfl)
         repeat exact sd T
         refine wa_ T (g:=?_)
         apply TD.bm e_f ([(FloatKind.f32.nearest v28)]:List Nat) (wn T) rfl (by simp only[zz,y25,e_c,e_f,e_i,e_ii,Nat.reduceAdd,Nat.reduceMul,Nat.reduceLeDiff,Nat.reduceEqDiff,tslice,tparts,h2,h4,h8,h18,h22,h23m,h23l,h23a];exact rfl) rfl
         repeat exact sd T
         refine wa_ T (g:=?_)
         obtain⟨v29,h24,hr⟩:=bs hr
         apply TD.ap (f:=e_f) (xs:=v23) (ys:=([(FloatKind.f32.nearest v28)]:List Nat)) (wn T) rfl rfl (by first|rfl|simp only[List.length_set]) rfl rfl so56 ni56 zc51 rfl (by rw[by51];exact h24) (fun _=>⟨rfl,rfl,rfl⟩) rfl
         repeat exact sd T
         repeat (first|(with_reducible first|refine mv ?_|refine TO.nil ?_)|((with_reducible first|apply TO.mv|apply TO.bin|apply TO.asg);(repeat (focus (show _=_;first|exact k1 rfl|exact k2 rfl|(simp only[zz,y25,e_c,e_f,e_i,e_ii,Nat.reduceAdd,Nat.reduceMul,Nat.reduceLeDiff,Nat.reduceEqDiff,h2,h4,h8,h18,h22,h23m,h23l,h23a]<;>exact rfl)|exact rfl)));(with_reducible apply TO.here))|((with_reducible apply TX.region);(focus (simp only[zl]<;>exact rfl));(focus rfl);(try dsimp only))|with_reducible refine TD.nil ?_|((with_reducible first|apply TD.ia|apply TD.fa|apply TD.sv);(repeat (focus (show _=_;first|exact k1 rfl|exact k2 rfl|(simp only[zz,y25,e_c,e_f,e_i,e_ii,Nat.reduceAdd,Nat.reduceMul,Nat.reduceLeDiff,Nat.reduceEqDiff,aB,z5,Int.reduceToNat,Int.reduceLE,Int.reduceLT,Int.cast_ofNat_Int,aK,h2,h4,h8,h18,h22,h23m,h23l,h23a]<;>exact rfl)|exact rfl)));(with_reducible refine TD.here ?_))|((with_reducible apply TX.drawn);(focus decide +kernel);(focus (simp only[zl]<;>exact rfl));(focus exact rfl);(try dsimp only))|fail)
         cases hr
         refine⟨rfl,?_⟩
         exact wk_ T [some 0,some 1,some 2,some 3,some 4,some 5] rfl (rv (rv (.rows (.rows (.rows (.rows .nil rfl rfl) rfl rfl) rfl rfl) rfl rfl) rfl) rfl)
        ·have T:=an h22 T
         refine wa_ T (g:=?_)
         cases hr
         refine⟨rfl,?_⟩
         exact wk_ T [some 0,some 1,some 2,some 3,some 4] rfl (rv (rv (.rows (.rows (.rows .nil rfl rfl) rfl rfl) rfl rfl) rfl) rfl)
       ·intro e h;cases h
       ·try dsimp only
        have T:=an h18 T
        refine wa_ T (g:=?_)
        obtain⟨_,h26,hr⟩:=bs hr
        refine TX.loopE (step:=iY) (x:=()) h26 (fun _=>⟨.Z::.v (.int .i64 v2)::.Z::.Z::.lptr 0 0 0::.Z::.lptr 1 0 0::.Z::.lsl 4 0 v10.length::.v (.int .i64 2)::.Z::.Z::.Z::.Z::.Z::.Z::.Z::.Z::.Z::.Z::.Z::.Z::.Z::.Z::.Z::.Z::.Z::.Z::.Z::.Z::.Z::.Z::.Z::.Z::.Z::.Z::.Z::.Z::.Z::.Z::.Z::.Z::.Z::.Z::.Z::.Z::.Z::.Z::.Z::.Z::.Z::.Z::.Z::.Z::.Z::.Z::.Z::.Z::.Z::.Z::[],[.var [.v (.int .i64 0),.v (.slice none 0 0),.v (.int .i64 0),.v (.slice none 0 0)],.var [.v (.int .i64 v2),.lsl 2 0 v20.length,.v (.int .i64 v2),.lsl 3 0 v30.length],.rows 1 (v20.map e_f),.rows 1 (v30.map e_f),.rows 2 (v10.map e_ii)]⟩) (fun _=>(.exit 0,⟨.Z::.Z::.Z::.Z::.lptr 0 0 0::.Z::.lptr 1 0 0::.Z::.Z::.Z::.Z::.Z::.Z::.Z::.Z::.Z::.Z::.Z::.Z::.Z::.Z::.Z::.Z::.Z::.Z::.Z::.Z::.Z::.Z::.Z::.Z::.Z::.Z::.Z::.Z::.Z::.Z::.Z::.Z::.Z::.Z::.Z::.Z::.Z::.Z::.Z::.Z::.Z::.Z::.Z::.Z::.Z::.Z::.Z::.Z::.Z::.Z::.Z::.Z::.Z::[],[.var [.v (.int .i64 0),.v (.slice none 0 0),.v (.int .i64 0),.v (.slice none 0 0)],.var [.v (.int .i64 v2),.lsl 2 0 v20.length,.v (.int .i64 v2),.lsl 3 0 v30.length],.rows 1 (v20.map e_f),.rows 1 (v30.map e_f)]⟩)) ?_ ?_ ?_ ?_
        ·rintro _ v0 hr
         dsimp only[iY] at hr
         try dsimp only
         refine wa_ T (g:=?_)
         cases hr
         refine⟨rfl,?_⟩
         exact wk_ T [some 0,some 1,some 2,some 3] rfl (rv (rv (.rows (.rows .nil rfl rfl) rfl rfl) rfl) rfl)
        ·intro e h;cases h
        ·try dsimp only
         refine wA T (g:=?_)
         cases hr
         refine⟨.inr rfl,_,(ry T),?_⟩
         exact wk_ T [some 2,some 3] rfl (.rows (.rows .nil rfl rfl) rfl rfl)
        ·try dsimp only
         exact wk_ T [some 0,some 1,some 2,some 3,some 4] rfl (rv (rv (.rows (.rows (.rows .nil rfl rfl) rfl rfl) rfl rfl) rfl) rfl)
       ·try dsimp only
        have T:=an h18 T
        exact wk_ T [some 0,some 1,some 2,none,some 3,some 4] rfl (rv (rv (.rows (.virt (.rows (.rows .nil rfl rfl) rfl rfl)) rfl rfl) rfl) rfl)
     ·try dsimp only
      have T:=an h8 T
      exact wk_ T [some 0,some 1,none,some 2,some 3] rfl (rv (rv (.virt (.rows (.rows .nil rfl rfl) rfl rfl)) rfl) rfl)
   ·have T:=an h4 T
    refine wA T (g:=?_)
    cases hr
    refine⟨.inr rfl,_,(ry T),?_⟩
    exact wk_ T [none,none] rfl (.virt (.virt .nil))
 rfl
end Go.Rex
namespace Go.Rex
open Go.Proofs
open Go Go.Rex Go.RowKit
set_option maxRecDepth 100000
set_option maxHeartbeats 200000
def y26:=an @ag51 <| an @cs51 <| an @ex102 <| an @ok51 <| an @so56 <| @bH
theorem nX{v1:(List Nat)}{v2:(List Nat)}{v3:Bool}(hr:fJ v1 v2=some (v3)):Spec (lim Try.prog) 71 [.list 1 (v1.map e_f),.list 1 (v2.map e_f)] ⟨[.v (.bool v3)],[]⟩:=by
 unfold fJ at hr
 have T:=an y26 <| @e_f.eq_1
 apply Spec.fn Try.func71 rfl
 focus (simp[Try.f71]<;>exact rfl)
 focus
  refine wc_ T (g:=?_)
  rcases ifs hr with⟨h1,hr⟩|⟨h1,hr⟩
  ·have T:=an h1 T
   refine wa_ T (g:=?_)
   cases hr
   refine⟨.inr rfl,_,(ry T),?_⟩
   exact wk_ T [] rfl .nil
  ·have T:=an h1 T
   refine wa_ T (g:=?_)
   obtain⟨v13,h14,hr⟩:=bs hr
   refine TX.loopE (step:=cS v1 v2) (x:=0) h14 (fun v4=>⟨.list 1 (v1.map e_f)::.list 1 (v2.map e_f)::.Z::.Z::.Z::.v (.int .i64 v4)::.Z::.Z::.Z::.Z::.Z::.Z::.Z::.Z::.Z::.Z::.Z::.Z::.Z::.Z::.Z::.Z::.Z::.Z::.Z::.Z::.Z::.Z::[],[]⟩) (fun e=>match e with|(.inl _)=>(.ret,⟨.Z::.Z::.Z::.Z::.v (.bool false)::.Z::.Z::.Z::.Z::.Z::.Z::.Z::.Z::.Z::.Z::.Z::.Z::.Z::.Z::.Z::.Z::.Z::.Z::.Z::.Z::.Z::.Z::.Z::[],[]⟩)|(.inr _)=>(.exit 0,⟨.Z::.Z::.Z::.Z::.Z::.Z::.Z::.Z::.Z::.Z::.Z::.Z::.Z::.Z::.Z::.Z::.Z::.Z::.Z::.Z::.Z::.Z::.Z::.Z::.Z::.Z::.Z::.Z::[],[]⟩)) ?_ ?_ ?_ ?_
   ·rintro v4 v0 hr
    dsimp only[cS] at hr
    try dsimp only
    refine wc_ T (g:=?_)
    rcases ifs hr with⟨h8,hr⟩|⟨h8,hr⟩
    ·have T:=an h8 T
     refine wa_ T (g:=?_)
     obtain⟨v9,h9,hr⟩:=bs hr
     have T:=an (gx e_f h9) T
     refine wA T (g:=?_)
     obtain⟨v10,h10,hr⟩:=bs hr
     apply TD.fb (wn T) rfl ex102 (by simp only[z1,z3,zl]<;>rfl) h10 rfl
     repeat exact sd T
     refine wa_ T (g:=?_)
     obtain⟨v11,h11,hr⟩:=bs hr
     have T:=an (gx e_f h11) T
     refine wA T (g:=?_)
     obtain⟨v12,h12,hr⟩:=bs hr
     apply TD.fb (wn T) rfl ex102 (by simp only[z1,z3,zl]<;>rfl) h12 rfl
     repeat exact sd T
     refine wa_ T (g:=?_)
     rcases ifs hr with⟨h13,hr⟩|⟨h13,hr⟩
     ·have T:=an h13 T
      refine wa_ T (g:=?_)
      cases hr
      refine⟨rfl,?_⟩
      exact wk_ T [] rfl .nil
     ·have T:=an h13 T
      refine wa_ T (g:=?_)
      cases hr
      refine⟨rfl,?_⟩
      exact wk_ T [] rfl .nil
    ·have T:=an h8 T
     refine wa_ T (g:=?_)
     cases hr
     refine⟨rfl,?_⟩
     exact wk_ T [] rfl .nil
   ·intro e h;rcases e with _|e<;>cases h
   ·try dsimp only
    rcases v13 with _|_
    ·try dsimp only at hr
     try dsimp only
     refine wa_ T (g:=?_)
     cases hr
     refine⟨.inr rfl,_,(ry T),?_⟩
     exact wk_ T [] rfl .nil
    ·try dsimp only at hr
     try dsimp only
     refine wa_ T (g:=?_)
     cases hr
     refine⟨.inr rfl,_,(ry T),?_⟩
     exact wk_ T [] rfl .nil
   ·try dsimp only
    exact wk_ T [] rfl .nil
 rfl
def y27:=an @ag3 <| an @ag56 <| an @Hi <| @Cy
theorem dH{v1:Int}{v2:(List Nat)}{v3:Int}{v4:(List Nat)}{v5:Bool}(hr:aQ v1 v2 v3 v4=some (v5)):Spec (lim Try.prog) 25 [.agg [.v (.int .i64 v1),.list 1 (v2.map e_f)],.agg [.v (.int .i64 v3),.list 1 (v4.map e_f)]] ⟨[.v (.bool v5)],[]⟩:=by
 unfold aQ at hr
 have T:=an y27 <| @e_f.eq_1
 apply Spec.fn Try.func25 rfl
 focus (simp[Try.f25]<;>exact rfl)
 focus
  refine wB T (g:=?_)
  rcases ifs hr with⟨h1,hr⟩|⟨h1,hr⟩
  ·have T:=an h1 T
   refine wA T (g:=?_)
   obtain⟨v6,h2,hr⟩:=bs hr
   apply TO.cal (wn T) rfl Mr (nX h2) rfl rfl rfl
   repeat exact sd T
   refine wa_ T (g:=?_)
   cases hr
   refine⟨.inr rfl,_,(ry T),?_⟩
   exact wk_ T [] rfl .nil
  ·have T:=an h1 T
   refine wa_ T (g:=?_)
   cases hr
   refine⟨.inr rfl,_,(ry T),?_⟩
   exact wk_ T [] rfl .nil
 rfl
theorem oJ{v1:Int}{v2:(List (List (Nat×Nat)))}{v3:Int}{v4:(List (List (Nat×Nat)))}(hr:gN v1 v2=some (v3,v4)):Spec (lim Try.prog) 65 [.v (.int .i64 v1),.func 72 [] [.fptr true [.list 1 (v2.map e_Lc_)] 0]] ⟨[.func 100 [] [.fptr true [.v (.int .i64 v3)] 0,.fptr true [.func 72 [] [.fptr true [.list 1 (v4.map e_Lc_)] 0]] 0]],[]⟩:=by
 unfold gN at hr
 have T:=@e_Lc_.eq_1
 apply Spec.fn Try.func65 rfl
 focus (simp[Try.f65]<;>exact rfl)
 focus
  refine wb_ T (g:=?_)
  cases hr
  refine⟨.inr rfl,_,(ry T),?_⟩
  exact wr [] rfl .nil
 rfl
def y28:=an @ag80 <| an @cs80 <| an @ok80 <| an @so128 <| an @bH <| @lX
theorem kN{v1:(List (Nat×Nat))}{v2:Bool}{v3:Int}{v4:Int}(hr:dS v1 v2 v3=some (v4)):Spec (lim Try.prog) 33 [.list 1 [[.func 82 [] [.fptr true [.list 1 (v1.map e_c)] 0]],[.func 98 [] [.fptr true [.v (.bool v2)] 0,.fptr true [.v (.int .i64 v3)] 0]]]] ⟨[.v (.int .i64 v4)],[]⟩:=by
 unfold dS at hr
 have T:=an y28 <| @e_c.eq_1
 apply Spec.fn Try.func33 rfl
 focus (simp[Try.f33]<;>exact rfl)
 focus
  refine wc_ T (g:=?_)
  refine TX.unroll ?_
  repeat (first|(with_reducible first|refine mv ?_|refine TO.nil ?_)|((with_reducible first|apply TO.bin|apply TO.ia|apply TO.ld|apply TO.asg|apply TO.mv);(repeat (focus (show _=_;first|exact k1 rfl|exact k2 rfl|(simp only[zz,y28,e_c,Nat.reduceAdd,Nat.reduceMul,Nat.reduceLeDiff,Nat.reduceEqDiff,aB,z5,Int.reduceToNat,Int.reduceLE,Int.reduceLT,Int.cast_ofNat_Int,tload,aV,aS,List.getElem?_map]<;>exact rfl)|exact rfl)));(with_reducible apply TO.here))|((with_reducible apply TX.region);(focus (simp only[zl]<;>exact rfl));(focus rfl);(try dsimp only))|((with_reducible apply TX.cond_true);(focus rfl);(focus (first|rfl|(simp only[z1,zn];done))))|((with_reducible apply TX.cond_false);(focus rfl);(focus (first|rfl|(simp only[z1,zn];done))))|fail)
  obtain⟨v5,h1,hr⟩:=bs hr
  apply TO.cal (wn T) rfl Kc (gB h1) rfl rfl rfl
  repeat exact sd T
  refine wa_ T (g:=?_)
  rcases ifs hr with⟨h2,hr⟩|⟨h2,hr⟩
  ·have T:=an h2 T
   refine wa_ T (g:=?_)
   cases hr
   refine⟨.inr rfl,_,(ry T),?_⟩
   exact wk_ T [] rfl .nil
  ·have T:=an h2 T
   refine wa_ T (g:=?_)
   refine TX.unroll ?_
   repeat (first|(with_reducible first|refine mv ?_|refine TO.nil ?_)|((with_reducible first|apply TO.bin|apply TO.ia|apply TO.ld|apply TO.asg|apply TO.mv);(repeat (focus (show _=_;first|exact k1 rfl|exact k2 rfl|(simp only[zz,y28,e_c,Nat.reduceAdd,Nat.reduceMul,Nat.reduceLeDiff,Nat.reduceEqDiff,aB,z5,Int.reduceToNat,Int.reduceLE,Int.reduceLT,Int.cast_ofNat_Int,tload,aV,aS,List.getElem?_map,h2]<;>exact rfl)|exact rfl)));(with_reducible apply TO.here))|((with_reducible apply TX.region);(focus (simp only[zl]<;>exact rfl));(focus rfl);(try dsimp only))|((with_reducible apply TX.cond_true);(focus rfl);(focus (first|rfl|(simp only[z1,zn,h2];done))))|((with_reducible apply TX.cond_false);(focus rfl);(focus (first|rfl|(simp only[z1,zn,h2];done))))|fail)
   obtain⟨v6,h3,hr⟩:=bs hr
   apply TO.cal (wn T) rfl kV (aG h3) rfl rfl rfl
   repeat exact sd T
   refine wa_ T (g:=?_)
   rcases ifs hr with⟨h4,hr⟩|⟨h4,hr⟩
   ·have T:=an h4 T
    refine wa_ T (g:=?_)
    cases hr
    refine⟨.inr rfl,_,(ry T),?_⟩
    exact wk_ T [] rfl .nil
   ·have T:=an h4 T
    refine wa_ T (g:=?_)
    refine TX.unroll ?_
    refine wa_ T (g:=?_)
    cases hr
    refine⟨.inr rfl,_,(ry T),?_⟩
    exact wk_ T [] rfl .nil
 rfl
def y29:=an @ag31 <| an @ag55 <| an @cs31 <| an @cs80 <| an @ok31 <| an @so128 <| an @so31 <| an @so55 <| @zc80
theorem jV{v1:Int}{v2:(List (List (Nat×Nat)))}{v3:Int}(hr:dJ v1 v2=some (v3)):Spec (lim Try.prog) 72 [.v (.int .i64 v1),.fptr true [.list 1 (v2.map e_Lc_)] 0] ⟨[.v (.int .i64 v3)],[]⟩:=by
 unfold dJ at hr
 have T:=an y29 <| @e_Lc_.eq_1
 apply Spec.fn Try.func72 rfl
 focus (simp[Try.f72]<;>exact rfl)
 focus
  refine wA T (g:=?_)
  obtain⟨v4,h1,hr⟩:=bs hr
  have T:=an (gx e_Lc_ h1) T
  refine wA T (g:=?_)
  obtain⟨v5,h2,hr⟩:=bs hr
  apply TD.cal (wn T) rfl Ge (kU h2) rfl rfl rfl
  repeat exact sd T
  refine wC T (g:=?_)
  obtain⟨v6,h3,hr⟩:=bs hr
  have T:=an (gx e_Lc_ h3) T
  refine wC T (g:=?_)
  obtain⟨⟨v7,v8⟩,h4,hr⟩:=bs hr
  try dsimp only at hr
  apply TD.cal (wn T) rfl gT (aH h4) rfl rfl rfl
  repeat exact sd T
  refine we_ T (g:=?_)
  obtain⟨v9,h5,hr⟩:=bs hr
  apply TD.cal (wn T) rfl nU (kN h5) rfl rfl rfl
  repeat exact sd T
  refine wa_ T (g:=?_)
  cases hr
  refine⟨.inr rfl,_,(ry T),?_⟩
  exact wr [] rfl .nil
 rfl
def y30:=an @ag118 <| an @ag3 <| @bH
theorem lG{v1:Int}{v2:(List (List (Nat×Nat)))}{v3:Int}(hr:fG v1 v2=some (v3)):Spec (lim Try.prog) 100 [.fptr true [.v (.int .i64 v1)] 0,.fptr true [.func 72 [] [.fptr true [.list 1 (v2.map e_Lc_)] 0]] 0] ⟨[.v (.int .i64 v3)],[]⟩:=by
 unfold fG at hr
 have T:=an y30 <| @e_Lc_.eq_1
 apply Spec.fn Try.func100 rfl
 focus (simp[Try.f100]<;>exact rfl)
 focus
  refine wA T (g:=?_)
  obtain⟨v8,h7,hr⟩:=bs hr
  refine TX.loopE (step:=bE v1 v2) (x:=0) h7 (fun v4=>⟨.Z::.fptr true [.func 72 [] [.fptr true [.list 1 (v2.map e_Lc_)] 0]] 0::.Z::.Z::.Z::.v (.int .i64 v1)::.v (.int .i64 v4)::.Z::.Z::.Z::.Z::.Z::.Z::.Z::.Z::.Z::[],[]⟩) (fun e=>match e with|(.inl v6)=>(.ret,⟨.Z::.Z::.v (.int .i64 v6)::.Z::.Z::.Z::.Z::.Z::.Z::.Z::.Z::.Z::.Z::.Z::.Z::.Z::[],[]⟩)|(.inr _)=>(.exit 0,⟨.Z::.Z::.Z::.Z::.Z::.Z::.Z::.Z::.Z::.Z::.Z::.Z::.Z::.Z::.Z::.Z::[],[]⟩)) ?_ ?_ ?_ ?_
  ·rintro v4 v0 hr
   dsimp only[bE] at hr
   try dsimp only
   refine wa_ T (g:=?_)
   rcases ifs hr with⟨h4,hr⟩|⟨h4,hr⟩
   ·have T:=an h4 T
    refine wA T (g:=?_)
    obtain⟨v7,h5,hr⟩:=bs hr
    apply TO.cal (wn T) rfl Nr (jV h5) rfl rfl rfl
    repeat exact sd T
    refine wa_ T (g:=?_)
    rcases ifs hr with⟨h6,hr⟩|⟨h6,hr⟩
    ·have T:=an h6 T
     refine wa_ T (g:=?_)
     cases hr
     refine⟨rfl,?_⟩
     exact wk_ T [] rfl .nil
    ·have T:=an h6 T
     refine wa_ T (g:=?_)
     cases hr
     refine⟨rfl,?_⟩
     exact wk_ T [] rfl .nil
   ·have T:=an h4 T
    refine wa_ T (g:=?_)
    cases hr
    refine⟨rfl,?_⟩
    exact wk_ T [] rfl .nil
  ·intro e h;rcases e with _|e<;>cases h
  ·try dsimp only
   rcases v8 with v9|_
   ·try dsimp only at hr
    try dsimp only
    refine wa_ T (g:=?_)
    cases hr
    refine⟨.inr rfl,_,(ry T),?_⟩
    exact wr [] rfl .nil
   ·try dsimp only at hr
    try dsimp only
    refine wa_ T (g:=?_)
    cases hr
    refine⟨.inr rfl,_,(ry T),?_⟩
    exact wr [] rfl .nil
  ·try dsimp only
   exact wr [] rfl .nil
 rfl
def y31:=an @ag80 <| an @cs80 <| an @ok80 <| an @so128 <| an @bH <| an @lX <| @uT
theorem kH{v1:Bool}{v2:Int}{v3:Bool}{v4:Int}{v5:Int}{v6:(List (List (Nat×Nat)))}{v7:Int}(hr:cQ v1 v2 v3 v4 v5 v6=some (v7)):Spec (lim Try.prog) 33 [.list 1 [[.func 98 [] [.fptr true [.v (.bool v1)] 0,.fptr true [.v (.int .i64 v2)] 0]],[.func 98 [] [.fptr true [.v (.bool v3)] 0,.fptr true [.v (.int .i64 v4)] 0]],[.func 100 [] [.fptr true [.v (.int .i64 v5)] 0,.fptr true [.func 72 [] [.fptr true [.list 1 (v6.map e_Lc_)] 0]] 0]]]] ⟨[.v (.int .i64 v7)],[]⟩:=by
 unfold cQ at hr
 have T:=an y31 <| @e_Lc_.eq_1
 apply Spec.fn Try.func33 rfl
 focus (simp[Try.f33]<;>exact rfl)
 focus
  refine wc_ T (g:=?_)
  refine TX.unroll ?_
  repeat (first|(with_reducible first|refine mv ?_|refine TO.nil ?_)|((with_reducible first|apply TO.bin|apply TO.ia|apply TO.ld|apply TO.asg|apply TO.mv);(repeat (focus (show _=_;first|exact k1 rfl|exact k2 rfl|(simp only[zz,y31,e_Lc_,Nat.reduceAdd,Nat.reduceMul,Nat.reduceLeDiff,Nat.reduceEqDiff,aB,z5,Int.reduceToNat,Int.reduceLE,Int.reduceLT,Int.cast_ofNat_Int,tload,aV,aS,List.getElem?_map]<;>exact rfl)|exact rfl)));(with_reducible apply TO.here))|((with_reducible apply TX.region);(focus (simp only[zl]<;>exact rfl));(focus rfl);(try dsimp only))|((with_reducible apply TX.cond_true);(focus rfl);(focus (first|rfl|(simp only[z1,zn];done))))|((with_reducible apply TX.cond_false);(focus rfl);(focus (first|rfl|(simp only[z1,zn];done))))|fail)
  obtain⟨v8,h1,hr⟩:=bs hr
  apply TO.cal (wn T) rfl kV (aG h1) rfl rfl rfl
  repeat exact sd T
  refine wa_ T (g:=?_)
  rcases ifs hr with⟨h2,hr⟩|⟨h2,hr⟩
  ·have T:=an h2 T
   refine wa_ T (g:=?_)
   cases hr
   refine⟨.inr rfl,_,(ry T),?_⟩
   exact wk_ T [] rfl .nil
  ·have T:=an h2 T
   refine wa_ T (g:=?_)
   refine TX.unroll ?_
   repeat (first|(with_reducible first|refine mv ?_|refine TO.nil ?_)|((with_reducible first|apply TO.bin|apply TO.ia|apply TO.ld|apply TO.asg|apply TO.mv);(repeat (focus (show _=_;first|exact k1 rfl|exact k2 rfl|(simp only[zz,y31,e_Lc_,Nat.reduceAdd,Nat.reduceMul,Nat.reduceLeDiff,Nat.reduceEqDiff,aB,z5,Int.reduceToNat,Int.reduceLE,Int.reduceLT,Int.cast_ofNat_Int,tload,aV,aS,List.getElem?_map,h2]<;>exact rfl)|exact rfl)));(with_reducible apply TO.here))|((with_reducible apply TX.region);(focus (simp only[zl]<;>exact rfl));(focus rfl);(try dsimp only))|((with_reducible apply TX.cond_true);(focus rfl);(focus (first|rfl|(simp only[z1,zn,h2];done))))|((with_reducible apply TX.cond_false);(focus rfl);(focus (first|rfl|(simp only[z1,zn,h2];done))))|fail)
   obtain⟨v9,h3,hr⟩:=bs hr
   apply TO.cal (wn T) rfl kV (aG h3) rfl rfl rfl
   repeat exact sd T
   refine wa_ T (g:=?_)
   rcases ifs hr with⟨h4,hr⟩|⟨h4,hr⟩
   ·have T:=an h4 T
    refine wa_ T (g:=?_)
    cases hr
    refine⟨.inr rfl,_,(ry T),?_⟩
    exact wk_ T [] rfl .nil
   ·have T:=an h4 T
    refine wa_ T (g:=?_)
    refine TX.unroll ?_
    repeat (first|(with_reducible first|refine mv ?_|refine TO.nil ?_)|((with_reducible first|apply TO.bin|apply TO.ia|apply TO.ld|apply TO.asg|apply TO.mv);(repeat (focus (show _=_;first|exact k1 rfl|exact k2 rfl|(simp only[zz,y31,e_Lc_,Nat.reduceAdd,Nat.reduceMul,Nat.reduceLeDiff,Nat.reduceEqDiff,aB,z5,Int.reduceToNat,Int.reduceLE,Int.reduceLT,Int.cast_ofNat_Int,tload,aV,aS,List.getElem?_map,h2,h4]<;>exact rfl)|exact rfl)));(with_reducible apply TO.here))|((with_reducible apply TX.region);(focus (simp only[zl]<;>exact rfl));(focus rfl);(try dsimp only))|((with_reducible apply TX.cond_true);(focus rfl);(focus (first|rfl|(simp only[z1,zn,h2,h4];done))))|((with_reducible apply TX.cond_false);(focus rfl);(focus (first|rfl|(simp only[z1,zn,h2,h4];done))))|fail)
    obtain⟨v10,h5,hr⟩:=bs hr
    apply TO.cal (wn T) rfl tR (lG h5) rfl rfl rfl
    repeat exact sd T
    refine wa_ T (g:=?_)
    rcases ifs hr with⟨h6,hr⟩|⟨h6,hr⟩
    ·have T:=an h6 T
     refine wa_ T (g:=?_)
     cases hr
     refine⟨.inr rfl,_,(ry T),?_⟩
     exact wk_ T [] rfl .nil
    ·have T:=an h6 T
     refine wa_ T (g:=?_)
     refine TX.unroll ?_
     refine wa_ T (g:=?_)
     cases hr
     refine⟨.inr rfl,_,(ry T),?_⟩
     exact wk_ T [] rfl .nil
 rfl
def y32:=an @ag109 <| an @ag3 <| an @cs109 <| an @qL <| an @qV <| an @ok109 <| an @st109 <| @zc109
theorem mU{v1:Int}{v2:Int}{v3:Int}{v4:Int}{v5:Int}{v6:Int}(hr:eH v1 v2 v3 v4=some (v5,v6)):Spec (lim Try.prog) 73 [.agg [.v (.int .i64 v1),.v (.int .i64 v2)],.agg [.v (.int .i64 v3),.v (.int .i64 v4)]] ⟨[.agg [.v (.int .i64 v5),.v (.int .i64 v6)]],[]⟩:=by
 unfold eH at hr
 have T:=y32
 apply Spec.fn Try.func73 rfl
 focus (simp[Try.f73]<;>exact rfl)
 focus
  refine wB T (g:=?_)
  cases hr
  refine⟨.inr rfl,_,(ry T),?_⟩
  exact wr [] rfl .nil
 rfl
theorem qR{v1:Int}{v2:Int}{v3:Int}(hr:iE v1 v2=some (v3)):Spec (lim Try.prog) 90 [.v (.int .i64 v1),.v (.int .i64 v2)] ⟨[.v (.int .i64 v3)],[]⟩:=by
 unfold iE at hr
 have T:=trivial
 apply Spec.fn Try.func90 rfl
 focus (simp[Try.f90]<;>exact rfl)
 focus
  refine wa_ T (g:=?_)
  by_cases h1:v2=0
  ·rw[if_pos h1] at hr
   cases hr
  ·rw[if_neg h1] at hr
   have T:=an h1 T
   refine wa_ T (g:=?_)
   cases hr
   refine⟨.inr rfl,_,(ry T),?_⟩
   exact wr [] rfl .nil
 rfl
theorem rJ{v1:Int}{v2:Int}{v3:Int}(hr:jE v1 v2=some (v3)):Spec (lim Try.prog) 103 [.v (.int .i64 v1),.v (.int .i64 v2)] ⟨[.v (.int .i64 v3)],[]⟩:=by
 unfold jE at hr
 have T:=trivial
 apply Spec.fn Try.func103 rfl
 focus (simp[Try.f103]<;>exact rfl)
 focus
  refine wa_ T (g:=?_)
  obtain⟨v4,h1,hr⟩:=bs hr
  apply TO.cal (wn T) rfl Mz (qR h1) rfl rfl rfl
  repeat exact sd T
  refine wa_ T (g:=?_)
  by_cases h2:v2=0
  ·rw[if_pos h2] at hr
   cases hr
  ·rw[if_neg h2] at hr
   have T:=an h2 T
   refine wa_ T (g:=?_)
   cases hr
   refine⟨.inr rfl,_,(ry T),?_⟩
   exact wr [] rfl .nil
 rfl
theorem kD{v1:Int}{v2:Int}{v3:Int}(hr:eR v1 v2=some (v3)):Spec (lim Try.prog) 74 [.v (.int .i64 v1),.v (.int .i64 v2)] ⟨[.v (.int .i64 v3)],[]⟩:=by
 unfold eR at hr
 have T:=trivial
 apply Spec.fn Try.func74 rfl
 focus (simp[Try.f74]<;>exact rfl)
 focus
  refine wa_ T (g:=?_)
  obtain⟨v4,h1,hr⟩:=bs hr
  apply TO.cal (wn T) rfl Lr (rJ h1) rfl rfl rfl
  repeat exact sd T
  refine wa_ T (g:=?_)
  cases hr
  refine⟨.inr rfl,_,(ry T),?_⟩
  exact wr [] rfl .nil
 rfl
theorem oN{v1:Int}{v2:(List (Int×Int))}{v3:Int}{v4:(List (Int×Int))}(hr:gM v1 v2=some (v3,v4)):Spec (lim Try.prog) 65 [.v (.int .i64 v1),.func 85 [] [.fptr true [.list 2 (v2.map e_ii)] 0]] ⟨[.func 100 [] [.fptr true [.v (.int .i64 v3)] 0,.fptr true [.func 85 [] [.fptr true [.list 2 (v4.map e_ii)] 0]] 0]],[]⟩:=by
 unfold gM at hr
 have T:=@e_ii.eq_1
 apply Spec.fn Try.func65 rfl
 focus (simp[Try.f65]<;>exact rfl)
 focus
  refine wb_ T (g:=?_)
  cases hr
  refine⟨.inr rfl,_,(ry T),?_⟩
  exact wr [] rfl .nil
 rfl
def y33:=an @ag109 <| an @ag84 <| an @cs109 <| an @ok109 <| @so84
theorem jW{v1:Int}{v2:(List (Int×Int))}{v3:Int}(hr:dK v1 v2=some (v3)):Spec (lim Try.prog) 85 [.v (.int .i64 v1),.fptr true [.list 2 (v2.map e_ii)] 0] ⟨[.v (.int .i64 v3)],[]⟩:=by
 unfold dK at hr
 have T:=an y33 <| @e_ii.eq_1
 apply Spec.fn Try.func85 rfl
 focus (simp[Try.f85]<;>exact rfl)
 focus
  refine wA T (g:=?_)
  obtain⟨⟨v4,v5⟩,h1,hr⟩:=bs hr
  try dsimp only at hr
  have T:=an (gx e_ii h1) T
  refine wA T (g:=?_)
  obtain⟨⟨v6,v7⟩,h2,hr⟩:=bs hr
  try dsimp only at hr
  apply TO.cal (wn T) rfl Jp (gX h2) rfl rfl rfl
  repeat exact sd T
  refine wa_ T (g:=?_)
  obtain⟨v8,h3,hr⟩:=bs hr
  apply TO.cal (wn T) rfl kV (aG h3) rfl rfl rfl
  repeat exact sd T
  refine wa_ T (g:=?_)
  cases hr
  refine⟨.inr rfl,_,(ry T),?_⟩
  exact wr [] rfl .nil
 rfl
def y34:=an @ag118 <| an @ag3 <| @bH
theorem lR{v1:Int}{v2:(List (Int×Int))}{v3:Int}(hr:fE v1 v2=some (v3)):Spec (lim Try.prog) 100 [.fptr true [.v (.int .i64 v1)] 0,.fptr true [.func 85 [] [.fptr true [.list 2 (v2.map e_ii)] 0]] 0] ⟨[.v (.int .i64 v3)],[]⟩:=by
 unfold fE at hr
 have T:=an y34 <| @e_ii.eq_1
 apply Spec.fn Try.func100 rfl
 focus (simp[Try.f100]<;>exact rfl)
 focus
  refine wA T (g:=?_)
  obtain⟨v8,h7,hr⟩:=bs hr
  refine TX.loopE (step:=bF v1 v2) (x:=0) h7 (fun v4=>⟨.Z::.fptr true [.func 85 [] [.fptr true [.list 2 (v2.map e_ii)] 0]] 0::.Z::.Z::.Z::.v (.int .i64 v1)::.v (.int .i64 v4)::.Z::.Z::.Z::.Z::.Z::.Z::.Z::.Z::.Z::[],[]⟩) (fun e=>match e with|(.inl v6)=>(.ret,⟨.Z::.Z::.v (.int .i64 v6)::.Z::.Z::.Z::.Z::.Z::.Z::.Z::.Z::.Z::.Z::.Z::.Z::.Z::[],[]⟩)|(.inr _)=>(.exit 0,⟨.Z::.Z::.Z::.Z::.Z::.Z::.Z::.Z::.Z::.Z::.Z::.Z::.Z::.Z::.Z::.Z::[],[]⟩)) ?_ ?_ ?_ ?_
  ·rintro v4 v0 hr
   dsimp only[bF] at hr
   try dsimp only
   refine wa_ T (g:=?_)
   rcases ifs hr with⟨h4,hr⟩|⟨h4,hr⟩
   ·have T:=an h4 T
    refine wA T (g:=?_)
    obtain⟨v7,h5,hr⟩:=bs hr
    apply TO.cal (wn T) rfl Mj (jW h5) rfl rfl rfl
    repeat exact sd T
    refine wa_ T (g:=?_)
    rcases ifs hr with⟨h6,hr⟩|⟨h6,hr⟩
    ·have T:=an h6 T
     refine wa_ T (g:=?_)
     cases hr
     refine⟨rfl,?_⟩
     exact wk_ T [] rfl .nil
    ·have T:=an h6 T
     refine wa_ T (g:=?_)
     cases hr
     refine⟨rfl,?_⟩
     exact wk_ T [] rfl .nil
   ·have T:=an h4 T
    refine wa_ T (g:=?_)
    cases hr
    refine⟨rfl,?_⟩
    exact wk_ T [] rfl .nil
  ·intro e h;rcases e with _|e<;>cases h
  ·try dsimp only
   rcases v8 with v9|_
   ·try dsimp only at hr
    try dsimp only
    refine wa_ T (g:=?_)
    cases hr
    refine⟨.inr rfl,_,(ry T),?_⟩
    exact wr [] rfl .nil
   ·try dsimp only at hr
    try dsimp only
    refine wa_ T (g:=?_)
    cases hr
    refine⟨.inr rfl,_,(ry T),?_⟩
    exact wr [] rfl .nil
  ·try dsimp only
   exact wr [] rfl .nil
 rfl
def y35:=an @ag109 <| an @ag3 <| an @ag84 <| an @by49 <| an @cs109 <| an @cs49 <| an @qL <| an @qV <| an @ni31 <| an @ok109 <| an @so31 <| an @so84 <| an @un3 <| an @un51 <| an @zc109 <| an @zc49 <| @bH
theorem pF{v1:(List (Int×Int))}{v2:(List (Nat×Nat))}{v3:Int}(hr:eX v1=some (v2,v3)):Spec (lim Try.prog) 36 [.list 2 (v1.map e_ii)] ⟨[.tuple [.lsl 0 0 v2.length,.v (.int .i64 v3)]],[.rows 1 (v2.map e_c)]⟩:=by
 unfold eX at hr
 have T:=an y35 <| an @e_c.eq_1 <| @e_ii.eq_1
 apply Spec.fn Try.func36 rfl
 focus (simp[Try.f36]<;>exact rfl)
 focus
  refine wD T (g:=?_)
  obtain⟨⟨v4,v5⟩,h1,hr⟩:=bs hr
  try dsimp only at hr
  apply TO.cal (wn T) rfl zU (oN h1) rfl rfl rfl
  repeat exact sd T
  refine wa_ T (g:=?_)
  obtain⟨v6,h2,hr⟩:=bs hr
  apply TO.cal (wn T) rfl tR (lR h2) rfl rfl rfl
  repeat exact sd T
  refine wa_ T (g:=?_)
  rcases ifs hr with⟨h3,hr⟩|⟨h3,hr⟩
  ·have T:=an h3 T
   refine wa_ T (g:=?_)
   cases hr
   refine⟨.inr rfl,_,(ry T),?_⟩
   exact wk_ T [none] rfl (.virt .nil)
  ·have T:=an h3 T
   refine wC T (g:=?_)
   apply TX.vt (α:=(Nat×Nat)) e_c 5 1 rfl
   repeat exact sd T
   with_reducible apply TX.here
   refine wa_ T (g:=?_)
   obtain⟨v16,h10,hr⟩:=bs hr
   refine TX.loopE (step:=cL v1) (x:=(([]:List (Nat×Nat)),0)) h10 (fun (v7,v8)=>⟨.Z::.Z::.Z::.Z::.Z::.lsl 0 0 v7.length::.Z::.Z::.Z::.Z::.Z::.Z::.Z::.Z::.Z::.Z::.list 2 (v1.map e_ii)::.v (.int .i64 (v1.length:Int))::.v (.int .i64 v8)::.Z::.Z::.Z::.Z::.Z::.Z::.Z::.Z::.Z::.Z::.Z::.Z::.Z::.Z::.Z::[],[.rows 1 (v7.map e_c)]⟩) (fun v12=>(.exit 0,⟨.Z::.Z::.Z::.Z::.Z::.lsl 0 0 v12.length::.Z::.Z::.Z::.Z::.Z::.Z::.Z::.Z::.Z::.Z::.Z::.Z::.Z::.Z::.Z::.Z::.Z::.Z::.Z::.Z::.Z::.Z::.Z::.Z::.Z::.Z::.Z::.Z::[],[.rows 1 (v12.map e_c)]⟩)) ?_ ?_ ?_ ?_
   ·rintro⟨v7,v8⟩ v0 hr
    dsimp only[cL] at hr
    try dsimp only
    refine wa_ T (g:=?_)
    rcases ifs hr with⟨h7,hr⟩|⟨h7,hr⟩
    ·have T:=an h7 T
     refine wa_ T (g:=?_)
     obtain⟨⟨v13,v14⟩,h8,hr⟩:=bs hr
     try dsimp only at hr
     have h8m:=cR (f:=e_ii) h8
     have h8l:=cV h8
     try simp only[List.length_set] at h8l
     have h8a:=dE h8
     have T:=an h8m T
     have T:=an h8l T
     have T:=an h8a T
     refine wA T (g:=?_)
     apply TO.pop1 (wn T) (cX un3 un51 rfl)
     repeat exact sd T
     refine wA T (g:=?_)
     apply TO.pop1 (wn T) (cX un3 un51 rfl)
     repeat exact sd T
     refine wa_ T (g:=?_)
     apply TO.pop1 (wn T) (nZ rfl rfl)
     repeat exact sd T
     refine wa_ T (g:=?_)
     apply TO.bm e_c ([((FloatKind.f32.nearest v13),(FloatKind.f32.nearest v14))]:List (Nat×Nat)) (wn T) rfl (by simp only[zz,y35,e_c,e_ii,Nat.reduceAdd,Nat.reduceMul,Nat.reduceLeDiff,Nat.reduceEqDiff,tslice,tparts,h3,h7,h8m,h8l,h8a];exact rfl) rfl
     repeat exact sd T
     refine wa_ T (g:=?_)
     obtain⟨v15,h9,hr⟩:=bs hr
     apply TO.ap (f:=e_c) (xs:=v7) (ys:=([((FloatKind.f32.nearest v13),(FloatKind.f32.nearest v14))]:List (Nat×Nat))) (wn T) rfl rfl (by first|rfl|simp only[List.length_set]) rfl rfl so31 ni31 zc49 rfl (by rw[by49];exact h9) (fun _=>⟨rfl,rfl,rfl⟩)
     repeat exact sd T
     refine wa_ T (g:=?_)
     cases hr
     refine⟨rfl,?_⟩
     exact wk_ T [some 0] rfl (.rows .nil rfl rfl)
    ·have T:=an h7 T
     refine wa_ T (g:=?_)
     cases hr
     refine⟨rfl,?_⟩
     exact wk_ T [some 0] rfl (.rows .nil rfl rfl)
   ·intro e h;cases h
   ·try dsimp only
    refine wa_ T (g:=?_)
    cases hr
    refine⟨.inr rfl,_,(ry T),?_⟩
    exact wk_ T [some 0] rfl (.rows .nil rfl rfl)
   ·try dsimp only
    exact wk_ T [some 0] rfl (.rows .nil rfl rfl)
 rfl
end Go.Rex
namespace Go.Rex
open Go.Proofs
open Go Go.Rex Go.RowKit
set_option maxRecDepth 100000
set_option maxHeartbeats 1000000
def y36:=an @ag109 <| an @ag3 <| an @ag31 <| an @ag49 <| an @ag55 <| an @by109 <| an @cs109 <| an @cs31 <| an @cs49 <| an @cs80 <| an @qL <| an @qV <| an @ok109 <| an @ok31 <| an @ok49 <| an @so128 <| an @so31 <| an @so55 <| an @so84 <| an @st109 <| an @zc109 <| an @zc80 <| @bH
theorem jU{v1:(List (List (Nat×Nat)))}{v2:(List (Nat×Nat))}{v3:Int}(hr:dC v1=some (v2,v3)):Spec (lim Try.prog) 26 [.list 1 (v1.map e_Lc_)] ⟨[.tuple [.lsl 0 0 v2.length,.v (.int .i64 v3)]],[.rows 1 (v2.map e_c)]⟩:=by
 unfold dC at hr
 have T:=an y36 <| an @e_Lc_.eq_1 <| an @e_c.eq_1 <| @e_ii.eq_1
 apply Spec.fn Try.func26 rfl
 focus (simp[Try.f26]<;>exact rfl)
 focus
  refine wD T (g:=?_)
  obtain⟨⟨v4,v5⟩,h1,hr⟩:=bs hr
  try dsimp only at hr
  apply TD.cal (wn T) rfl gT (aH h1) rfl rfl rfl
  repeat exact sd T
  refine wC T (g:=?_)
  obtain⟨⟨v6,v7⟩,h2,hr⟩:=bs hr
  try dsimp only at hr
  apply TD.cal (wn T) rfl gT (aH h2) rfl rfl rfl
  repeat exact sd T
  refine wC T (g:=?_)
  obtain⟨⟨v8,v9⟩,h3,hr⟩:=bs hr
  try dsimp only at hr
  apply TD.cal (wn T) rfl zU (oJ h3) rfl rfl rfl
  repeat exact sd T
  refine we_ T (g:=?_)
  obtain⟨v10,h4,hr⟩:=bs hr
  apply TD.cal (wn T) rfl nU (kH h4) rfl rfl rfl
  repeat exact sd T
  refine wa_ T (g:=?_)
  rcases ifs hr with⟨h5,hr⟩|⟨h5,hr⟩
  ·have T:=an h5 T
   refine wa_ T (g:=?_)
   cases hr
   refine⟨.inr rfl,_,(ry T),?_⟩
   exact wk_ T [none] rfl (.virt .nil)
  ·have T:=an h5 T
   refine wA T (g:=?_)
   obtain⟨v11,h6,hr⟩:=bs hr
   have T:=an (gx e_Lc_ h6) T
   refine wC T (g:=?_)
   obtain⟨v12,h7,hr⟩:=bs hr
   apply TO.mk e_ii h7 (wn T) rfl rfl so84 zc109 by109 rfl rfl rfl
   repeat exact sd T
   refine wc_ T (g:=?_)
   obtain⟨v66,h38,hr⟩:=bs hr
   refine TX.loopE (step:=cJ v1 v12) (x:=(v12,0)) h38 (fun (v13,v14)=>⟨.Z::.fptr true [.list 1 (v1.map e_Lc_)] 0::.Z::.Z::.Z::.lsl 0 0 v13.length::.Z::.Z::.Z::.Z::.Z::.Z::.Z::.Z::.Z::.Z::.Z::.Z::.Z::.Z::.Z::.Z::.Z::.Z::.Z::.Z::.Z::.Z::.Z::.Z::.Z::.Z::.Z::.v (.int .i64 (v12.length:Int))::.v (.int .i64 v14)::.Z::.Z::.Z::.Z::.Z::.Z::.Z::.Z::.Z::.Z::.Z::.Z::.Z::.Z::.Z::.Z::.Z::.Z::.Z::.Z::.Z::.Z::.Z::.Z::.Z::.Z::.Z::.Z::.Z::.Z::.Z::.Z::.Z::.Z::.Z::[],[.rows 2 (v13.map e_ii)]⟩) (fun v40=>(.exit 0,⟨.Z::.Z::.Z::.Z::.Z::.lsl 0 0 v40.length::.Z::.Z::.Z::.Z::.Z::.Z::.Z::.Z::.Z::.Z::.Z::.Z::.Z::.Z::.Z::.Z::.Z::.Z::.Z::.Z::.Z::.Z::.Z::.Z::.Z::.Z::.Z::.Z::.Z::.Z::.Z::.Z::.Z::.Z::.Z::.Z::.Z::.Z::.Z::.Z::.Z::.Z::.Z::.Z::.Z::.Z::.Z::.Z::.Z::.Z::.Z::.Z::.Z::.Z::.Z::.Z::.Z::.Z::.Z::.Z::.Z::.Z::.Z::.Z::[],[.rows 2 (v40.map e_ii)]⟩)) ?_ ?_ ?_ ?_
   ·rintro⟨v13,v14⟩ v0 hr
    dsimp only[cJ] at hr
    try dsimp only
    refine wa_ T (g:=?_)
    rcases ifs hr with⟨h23,hr⟩|⟨h23,hr⟩
    ·have T:=an h23 T
     refine wC T (g:=?_)
     obtain⟨⟨v60,v61⟩,h34,hr⟩:=bs hr
     try dsimp only at hr
     refine TX.loopE (step:=cA v1 v14) (x:=(0,0,0)) h34 (fun (v41,v42,v43)=>⟨.Z::.fptr true [.list 1 (v1.map e_Lc_)] 0::.Z::.Z::.Z::.lsl 0 0 v13.length::.v (.int .i64 v14)::.lptr 1 0 0::.Z::.Z::.Z::.Z::.Z::.Z::.Z::.Z::.Z::.Z::.Z::.Z::.Z::.Z::.Z::.Z::.Z::.Z::.Z::.Z::.Z::.Z::.Z::.Z::.Z::.v (.int .i64 (v12.length:Int))::.v (.int .i64 v14)::.Z::.Z::.list 1 (v1.map e_Lc_)::.v (.int .i64 (v1.length:Int))::.v (.int .i64 v43)::.Z::.Z::.Z::.Z::.Z::.Z::.Z::.Z::.Z::.Z::.Z::.Z::.Z::.Z::.Z::.Z::.Z::.Z::.Z::.Z::.Z::.Z::.Z::.Z::.Z::.Z::.Z::.Z::.Z::.Z::[],[.rows 2 (v13.map e_ii),.var [.v (.int .i64 v41),.v (.int .i64 v42)]]⟩) (fun (v51,v52)=>(.exit 2,⟨.Z::.fptr true [.list 1 (v1.map e_Lc_)] 0::.Z::.Z::.Z::.lsl 0 0 v13.length::.v (.int .i64 v14)::.lptr 1 0 0::.Z::.Z::.Z::.Z::.Z::.Z::.Z::.Z::.Z::.Z::.Z::.Z::.Z::.Z::.Z::.Z::.Z::.Z::.Z::.Z::.Z::.Z::.Z::.Z::.Z::.v (.int .i64 (v12.length:Int))::.v (.int .i64 v14)::.Z::.Z::.Z::.Z::.Z::.Z::.Z::.Z::.Z::.Z::.Z::.Z::.Z::.Z::.Z::.Z::.Z::.Z::.Z::.Z::.Z::.Z::.Z::.Z::.Z::.Z::.Z::.Z::.Z::.Z::.Z::.Z::.Z::.Z::.Z::[],[.rows 2 (v13.map e_ii),.var [.v (.int .i64 v51),.v (.int .i64 v52)]]⟩)) ?_ ?_ ?_ ?_
     ·rintro⟨v41,v42,v43⟩ v0 hr
      dsimp only[cA] at hr
      try dsimp only
      refine wa_ T (g:=?_)
      rcases ifs hr with⟨h29,hr⟩|⟨h29,hr⟩
      ·have T:=an h29 T
       refine wa_ T (g:=?_)
       obtain⟨v53,h30,hr⟩:=bs hr
       have T:=an (gx e_Lc_ h30) T
       refine wA T (g:=?_)
       obtain⟨⟨v54,v55⟩,h31,hr⟩:=bs hr
       try dsimp only at hr
       have T:=an (gx e_c h31) T
       refine wA T (g:=?_)
       obtain⟨⟨v56,v57⟩,h32,hr⟩:=bs hr
       try dsimp only at hr
       apply TD.cal (wn T) rfl Da (gD h32) rfl rfl rfl
       repeat exact sd T
       refine wa_ T (g:=?_)
       obtain⟨⟨v58,v59⟩,h33,hr⟩:=bs hr
       try dsimp only at hr
       apply TD.cal (wn T) rfl Nv (mU h33) rfl rfl rfl
       repeat exact sd T
       refine wa_ T (g:=?_)
       cases hr
       refine⟨rfl,?_⟩
       exact wk_ T [some 0,some 1] rfl (.rows (rv .nil rfl) rfl rfl)
      ·have T:=an h29 T
       refine wa_ T (g:=?_)
       cases hr
       refine⟨rfl,?_⟩
       exact wk_ T [some 0,some 1] rfl (.rows (rv .nil rfl) rfl rfl)
     ·intro e h;cases h
     ·try dsimp only
      refine wC T (g:=?_)
      obtain⟨v62,h35,hr⟩:=bs hr
      apply TD.cal (wn T) rfl Gr (kD h35) rfl rfl rfl
      repeat exact sd T
      refine wC T (g:=?_)
      obtain⟨v63,h36,hr⟩:=bs hr
      apply TD.cal (wn T) rfl Gr (kD h36) rfl rfl rfl
      repeat exact sd T
      refine wa_ T (g:=?_)
      obtain⟨⟨v64,v65⟩,h37,hr⟩:=bs hr
      try dsimp only at hr
      have h37m:=cR (f:=e_ii) h37
      have h37l:=cV h37
      try simp only[List.length_set] at h37l
      have h37a:=dE h37
      have T:=an h37m T
      have T:=an h37l T
      have T:=an h37a T
      refine wa_ T (g:=?_)
      apply TD.sr e_ii v13 (v64,v65) (v62,v63) h37a (wn T) rfl rfl rfl rfl rfl ok109 (by rw[cs109];rfl) rfl rfl rfl rfl rfl
      repeat exact sd T
      refine wa_ T (g:=?_)
      cases hr
      refine⟨rfl,?_⟩
      exact wk_ T [some 0] rfl (.rows .nil rfl rfl)
     ·try dsimp only
      exact wk_ T [some 0,some 1] rfl (.rows (rv .nil rfl) rfl rfl)
    ·have T:=an h23 T
     refine wa_ T (g:=?_)
     cases hr
     refine⟨rfl,?_⟩
     exact wk_ T [some 0] rfl (.rows .nil rfl rfl)
   ·intro e h;cases h
   ·try dsimp only
    refine wa_ T (g:=?_)
    obtain⟨⟨v67,v68⟩,h39,hr⟩:=bs hr
    try dsimp only at hr
    apply TO.lok (wn T) rfl Nb (pF h39) (vw T) rfl rfl (by simp[jM,cl,e_ff,e_c,e_ii,e_i,e_Lc_,e_f,e_Lff_])
    repeat exact sd T
    refine wa_ T (g:=?_)
    cases hr
    refine⟨.inr rfl,_,(ry T),?_⟩
    exact wk_ T [some 1] rfl (.rows .nil rfl rfl)
   ·try dsimp only
    exact wk_ T [some 0] rfl (.rows .nil rfl rfl)
 rfl
end Go.Rex
namespace Go.Rex
open Go.Proofs
open Go Go.Rex Go.RowKit
set_option maxRecDepth 100000
set_option maxHeartbeats 200000
theorem mX{v1:Int}{v2:Int}{v3:Int}(hr:fS v1 v2=some (v3)):Spec (lim Try.prog) 75 [.v (.int .i64 v1),.v (.int .i64 v2)] ⟨[.v (.int .i64 v3)],[]⟩:=by
 unfold fS at hr
 have T:=trivial
 apply Spec.fn Try.func75 rfl
 focus (simp[Try.f75]<;>exact rfl)
 focus
  refine wa_ T (g:=?_)
  by_cases h1:v2=0
  ·rw[if_pos h1] at hr
   cases hr
  ·rw[if_neg h1] at hr
   have T:=an h1 T
   refine wa_ T (g:=?_)
   rcases ifs hr with⟨h2,hr⟩|⟨h2,hr⟩
   ·have T:=an h2 T
    refine wa_ T (g:=?_)
    cases hr
    refine⟨.inr rfl,_,(ry T),?_⟩
    exact wk_ T [] rfl .nil
   ·have T:=an h2 T
    refine wa_ T (g:=?_)
    cases hr
    refine⟨.inr rfl,_,(ry T),?_⟩
    exact wk_ T [] rfl .nil
 rfl
theorem oH{v1:Int}{v2:Int}(hr:mE v1=some (v2)):Spec (lim Try.prog) 64 [.v (.int .i64 v1)] ⟨[.v (.int .i64 v2)],[]⟩:=by
 unfold mE at hr
 have T:=trivial
 apply Spec.fn Try.func64 rfl
 focus (simp[Try.f64]<;>exact rfl)
 focus
  refine wa_ T (g:=?_)
  apply TO.pop1 (wn T) (xZ rfl)
  repeat exact sd T
  refine wa_ T (g:=?_)
  apply TO.pop1 (wn T) (Le rfl rfl)
  repeat exact sd T
  refine wa_ T (g:=?_)
  cases hr
  refine⟨.inr rfl,_,(ry T),?_⟩
  exact wr [] rfl .nil
 rfl
end Go.Rex
