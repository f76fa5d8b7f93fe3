/- Proofs that the program's functions do what these plain functions say. -/
import Derived.Test.YtjhneebncpmneaaGreatDoorGB
import Derived.Test.YtjhneebncpmneaaGreatDoorS
set_option linter.unusedSimpArgs false
set_option linter.unusedVariables false
set_option linter.defProp false
namespace Go.Rex
open Go.Proofs
open Go Go.Rex Go.RowKit
set_option maxRecDepth 100000
set_option maxHeartbeats 200000
def y1:=an @ag22 <| an @uF <| @so22
theorem Bg{v1:Int}{v2:(List Nat)}{v3:Bool}(hr:eG v1 v2=some (v3)):Spec (lim Tryz.prog) 13 [.agg [.v (.int .i64 v1),.list 1 (v2.map e_f)]] ⟨[.v (.bool v3)],[]⟩:=by
 unfold eG at hr
 have T:=an y1 <| @e_f.eq_1
 apply Spec.fn Tryz.func13 rfl
 focus (simp[Tryz.f13]<;>exact rfl)
 focus
  refine wD T (g:=?_)
  rcases ifs hr with⟨h1,hr⟩|⟨h1,hr⟩
  ·have T:=an h1 T
   refine wa_ T (g:=?_)
   cases hr
   refine⟨.inr rfl,_,(ry T),?_⟩
   exact wk_ T [] rfl .nil
  ·have T:=an h1 T
   refine wC T (g:=?_)
   rcases ifs hr with⟨h2,hr⟩|⟨h2,hr⟩
   ·have T:=an h2 T
    refine wC T (g:=?_)
    cases hr
    refine⟨.inr rfl,_,(ry T),?_⟩
    exact wk_ T [] rfl .nil
   ·have T:=an h2 T
    refine wa_ T (g:=?_)
    cases hr
    refine⟨.inr rfl,_,(ry T),?_⟩
    exact wk_ T [] rfl .nil
 rfl
end Go.Rex
namespace Go.Rex
open Go.Proofs
open Go Go.Rex Go.RowKit
set_option maxRecDepth 100000
set_option maxHeartbeats 200000
theorem mT{v1:Int}{v2:Int}{v3:Int}{v4:Bool}(hr:bD v1 v2 v3=some (v4)):Spec (lim Tryz.prog) 25 [.v (.int .i64 v1),.v (.int .i64 v2),.v (.int .i64 v3)] ⟨[.v (.bool v4)],[]⟩:=by
 unfold bD at hr
 have T:=trivial
 apply Spec.fn Tryz.func25 rfl
 focus (simp[Tryz.f25]<;>exact rfl)
 focus
  refine wa_ T (g:=?_)
  rcases ifs hr with⟨h1,hr⟩|⟨h1,hr⟩
  ·have T:=an h1 T
   refine wa_ T (g:=?_)
   cases hr
   refine⟨.inr rfl,_,(ry T),?_⟩
   exact wk_ T [] rfl .nil
  ·have T:=an h1 T
   refine wa_ T (g:=?_)
   cases hr
   refine⟨.inr rfl,_,(ry T),?_⟩
   exact wk_ T [] rfl .nil
 rfl
end Go.Rex
namespace Go.Rex
open Go.Proofs
open Go Go.Rex Go.RowKit
set_option maxRecDepth 100000
set_option maxHeartbeats 200000
theorem wQ{v1:Int}{v2:Bool}(hr:mD v1=some (v2)):Spec (lim Tryz.prog) 101 [.v (.int .i64 v1)] ⟨[.v (.bool v2)],[]⟩:=by
 unfold mD at hr
 have T:=trivial
 apply Spec.fn Tryz.func101 rfl
 focus (simp[Tryz.f101]<;>exact rfl)
 focus
  refine wa_ T (g:=?_)
  obtain⟨v3,h1,hr⟩:=bs hr
  apply TO.cal (wn T) rfl Ki (mT h1) rfl rfl rfl
  repeat exact sd T
  refine wa_ T (g:=?_)
  cases hr
  refine⟨.inr rfl,_,(ry T),?_⟩
  exact wr [] rfl .nil
 rfl
end Go.Rex
namespace Go.Rex
open Go.Proofs
open Go Go.Rex Go.RowKit
set_option maxRecDepth 100000
set_option maxHeartbeats 1000000
def y2:=an @un121 <| @un3
theorem vZ{v1:Nat}{v2:Bool}(hr:iD v1=some (v2)):Spec (lim Tryz.prog) 102 [.v (.float .f64 v1)] ⟨[.v (.bool v2)],[]⟩:=by
 unfold iD at hr
 have T:=y2
 apply Spec.fn Tryz.func102 rfl
 focus (simp[Tryz.f102]<;>exact rfl)
 focus
  refine wa_ T (g:=?_)
  apply TO.pop1 (wn T) (gL rfl rfl (by decide))
  repeat exact sd T
  refine wa_ T (g:=?_)
  rcases ifs hr with⟨h1,hr⟩|⟨h1,hr⟩
  ·have T:=an h1 T
   refine wa_ T (g:=?_)
   cases hr
   refine⟨.inr rfl,_,(ry T),?_⟩
   exact wk_ T [] rfl .nil
  ·have T:=an h1 T
   refine wa_ T (g:=?_)
   obtain⟨v3,h2,hr⟩:=bs hr
   apply TO.pop1 (wn T) (Ae rfl rfl (by decide) (h2))
   repeat exact sd T
   refine wa_ T (g:=?_)
   apply TO.pop1 (wn T) (gL rfl rfl (by decide))
   repeat exact sd T
   refine wa_ T (g:=?_)
   rcases ifs hr with⟨h3,hr⟩|⟨h3,hr⟩
   ·have T:=an h3 T
    refine wa_ T (g:=?_)
    cases hr
    refine⟨.inr rfl,_,(ry T),?_⟩
    exact wk_ T [] rfl .nil
   ·have T:=an h3 T
    refine wa_ T (g:=?_)
    apply TO.pop1 (wn T) (gL rfl rfl (by decide))
    repeat exact sd T
    refine wa_ T (g:=?_)
    rcases ifs hr with⟨h4,hr⟩|⟨h4,hr⟩
    ·have T:=an h4 T
     refine wa_ T (g:=?_)
     apply TO.pop1 (wn T) (gL rfl rfl (by decide))
     repeat exact sd T
     refine wa_ T (g:=?_)
     apply TO.pop1 (wn T) (kT rfl)
     repeat exact sd T
     refine wa_ T (g:=?_)
     rcases ifs hr with⟨h5,hr⟩|⟨h5,hr⟩
     ·have T:=an h5 T
      refine wa_ T (g:=?_)
      obtain⟨v4,h6,hr⟩:=bs hr
      apply TO.pop1 (wn T) (uA un121 un3 rfl h6)
      repeat exact sd T
      refine wa_ T (g:=?_)
      apply TO.pop1 (wn T) (tY un3 un121 rfl)
      repeat exact sd T
      refine wa_ T (g:=?_)
      apply TO.pop1 (wn T) (gL rfl rfl (by decide))
      repeat exact sd T
      refine wa_ T (g:=?_)
      cases hr
      refine⟨.inr rfl,_,(ry T),?_⟩
      exact wk_ T [] rfl .nil
     ·have T:=an h5 T
      refine wa_ T (g:=?_)
      cases hr
      refine⟨.inr rfl,_,(ry T),?_⟩
      exact wk_ T [] rfl .nil
    ·have T:=an h4 T
     refine wa_ T (g:=?_)
     apply TO.pop1 (wn T) (kT rfl)
     repeat exact sd T
     refine wa_ T (g:=?_)
     cases hr
     refine⟨.inr rfl,_,(ry T),?_⟩
     exact wk_ T [] rfl .nil
 rfl
end Go.Rex
namespace Go.Rex
open Go.Proofs
open Go Go.Rex Go.RowKit
set_option maxRecDepth 100000
set_option maxHeartbeats 1000000
def y3:=an @ag22 <| an @ag3 <| an @ag82 <| an @cs82 <| an @uL <| an @uF <| an @ok82 <| an @so22 <| an @un121 <| an @un82 <| @lW
theorem pX{v1:Int}{v2:(List Nat)}{v3:Int}{v4:Int}(hr:dH v1 v2=some (v3,v4)):Spec (lim Tryz.prog) 57 [.agg [.v (.int .i64 v1),.list 1 (v2.map e_f)]] ⟨[.tuple [.v (.int .i64 v3),.v (.int .i64 v4)]],[]⟩:=by
 unfold dH at hr
 have T:=an y3 <| @e_f.eq_1
 apply Spec.fn Tryz.func57 rfl
 focus (simp[Tryz.f57]<;>exact rfl)
 focus
  refine wB T (g:=?_)
  obtain⟨v5,h1,hr⟩:=bs hr
  apply TO.cal (wn T) rfl Wu (wQ h1) rfl rfl rfl
  repeat exact sd T
  refine wa_ T (g:=?_)
  apply TO.pop1 (wn T) (kT rfl)
  repeat exact sd T
  refine wa_ T (g:=?_)
  rcases ifs hr with⟨h2,hr⟩|⟨h2,hr⟩
  ·have T:=an h2 T
   refine wC T (g:=?_)
   rcases ifs hr with⟨h3,hr⟩|⟨h3,hr⟩
   ·have T:=an h3 T
    refine wa_ T (g:=?_)
    cases hr
    refine⟨.inr rfl,_,(ry T),?_⟩
    exact wk_ T [] rfl .nil
   ·have T:=an h3 T
    refine wC T (g:=?_)
    rcases ifs hr with⟨h4,hr⟩|⟨h4,hr⟩
    ·have T:=an h4 T
     refine wa_ T (g:=?_)
     cases hr
     refine⟨.inr rfl,_,(ry T),?_⟩
     exact wk_ T [] rfl .nil
    ·have T:=an h4 T
     refine wa_ T (g:=?_)
     obtain⟨v15,h19,hr⟩:=bs hr
     refine TX.loopE (step:=bN v2) (x:=0) h19 (fun v6=>⟨.junk :: .fptr true [.v (.int .i64 v1),.list 1 (v2.map e_f)] 0 :: .junk :: .junk :: .v (.int .i64 v6) :: .junk :: .junk :: .junk :: .junk :: .junk :: .junk :: .junk :: .junk :: .junk :: .junk :: .junk :: .junk :: .junk :: .junk :: .junk :: .junk :: .junk :: .junk :: .junk :: .junk :: .junk :: .junk :: .junk :: .junk :: .junk :: .junk :: .junk :: .junk :: .junk :: .junk :: .junk :: .junk :: .junk :: .junk :: .junk :: .junk :: .junk::[],[]⟩) (fun e=>match e with|(.inl (v10,v11))=>(.ret,⟨.junk :: .junk :: .v (.int .i64 v10) :: .v (.int .i64 v11) :: .junk :: .junk :: .junk :: .junk :: .junk :: .junk :: .junk :: .junk :: .junk :: .junk :: .junk :: .junk :: .junk :: .junk :: .junk :: .junk :: .junk :: .junk :: .junk :: .junk :: .junk :: .junk :: .junk :: .junk :: .junk :: .junk :: .junk :: .junk :: .junk :: .junk :: .junk :: .junk :: .junk :: .junk :: .junk :: .junk :: .junk :: .junk::[],[]⟩)|(.inr _)=>(.exit 0,⟨.junk :: .junk :: .junk :: .junk :: .junk :: .junk :: .junk :: .junk :: .junk :: .junk :: .junk :: .junk :: .junk :: .junk :: .junk :: .junk :: .junk :: .junk :: .junk :: .junk :: .junk :: .junk :: .junk :: .junk :: .junk :: .junk :: .junk :: .junk :: .junk :: .junk :: .junk :: .junk :: .junk :: .junk :: .junk :: .junk :: .junk :: .junk :: .junk :: .junk :: .junk :: .junk::[],[]⟩)) ?_ ?_ ?_ ?_
     ·rintro v6 v0 hr
      dsimp only[bN] at hr
      try dsimp only
      refine wC T (g:=?_)
      rcases ifs hr with⟨h12,hr⟩|⟨h12,hr⟩
      ·have T:=an h12 T
       refine wA T (g:=?_)
       obtain⟨v12,h13,hr⟩:=bs hr
       have T:=an (gx e_f h13) T
       refine wA T (g:=?_)
       obtain⟨v13,h14,hr⟩:=bs hr
       apply TO.pop1 (wn T) (rV un82 un121 rfl h14)
       repeat exact sd T
       refine wa_ T (g:=?_)
       obtain⟨v14,h15,hr⟩:=bs hr
       apply TO.cal (wn T) rfl Vy (vZ h15) rfl rfl rfl
       repeat exact sd T
       refine wa_ T (g:=?_)
       apply TO.pop1 (wn T) (kT rfl)
       repeat exact sd T
       refine wa_ T (g:=?_)
       rcases ifs hr with⟨h16,hr⟩|⟨h16,hr⟩
       ·have T:=an h16 T
        refine wa_ T (g:=?_)
        apply TO.pop1 (wn T) (gL rfl rfl (by decide))
        repeat exact sd T
        refine wa_ T (g:=?_)
        rcases ifs hr with⟨h17,hr⟩|⟨h17,hr⟩
        ·have T:=an h17 T
         refine wa_ T (g:=?_)
         cases hr
         refine⟨rfl,?_⟩
         exact wk_ T [] rfl .nil
        ·have T:=an h17 T
         refine wa_ T (g:=?_)
         apply TO.pop1 (wn T) (gL rfl rfl (by decide))
         repeat exact sd T
         refine wa_ T (g:=?_)
         rcases ifs hr with⟨h18,hr⟩|⟨h18,hr⟩
         ·have T:=an h18 T
          refine wa_ T (g:=?_)
          cases hr
          refine⟨rfl,?_⟩
          exact wk_ T [] rfl .nil
         ·have T:=an h18 T
          refine wa_ T (g:=?_)
          cases hr
          refine⟨rfl,?_⟩
          exact wk_ T [] rfl .nil
       ·have T:=an h16 T
        refine wa_ T (g:=?_)
        cases hr
        refine⟨rfl,?_⟩
        exact wk_ T [] rfl .nil
      ·have T:=an h12 T
       refine wa_ T (g:=?_)
       cases hr
       refine⟨rfl,?_⟩
       exact wk_ T [] rfl .nil
     ·intro e h;rcases e with _|e<;>cases h
     ·try dsimp only
      rcases v15 with⟨v16,v17⟩|_
      ·try dsimp only at hr
       try dsimp only
       refine wa_ T (g:=?_)
       cases hr
       refine⟨.inr rfl,_,(ry T),?_⟩
       exact wk_ T [] rfl .nil
      ·try dsimp only at hr
       try dsimp only
       refine wa_ T (g:=?_)
       cases hr
       refine⟨.inr rfl,_,(ry T),?_⟩
       exact wk_ T [] rfl .nil
     ·try dsimp only
      exact wk_ T [] rfl .nil
  ·have T:=an h2 T
   refine wa_ T (g:=?_)
   cases hr
   refine⟨.inr rfl,_,(ry T),?_⟩
   exact wk_ T [] rfl .nil
 rfl
end Go.Rex
namespace Go.Rex
open Go.Proofs
open Go Go.Rex Go.RowKit
set_option maxRecDepth 100000
set_option maxHeartbeats 200000
def y4:=an @ag24 <| an @cs24 <| @ok24
theorem rA{v1:Int}{v2:(List Nat)}{v3:Int}(hr:bZ v1 v2=some (v3)):Spec (lim Tryz.prog) 18 [.agg [.v (.int .i64 v1),.list 1 (v2.map e_f)]] ⟨[.v (.int .i64 v3)],[]⟩:=by
 unfold bZ at hr
 have T:=an y4 <| @e_f.eq_1
 apply Spec.fn Tryz.func18 rfl
 focus (simp[Tryz.f18]<;>exact rfl)
 focus
  refine wB T (g:=?_)
  obtain⟨⟨v4,v5⟩,h1,hr⟩:=bs hr
  try dsimp only at hr
  apply TO.cal (wn T) rfl Yv (pX h1) rfl rfl rfl
  repeat exact sd T
  refine wa_ T (g:=?_)
  cases hr
  refine⟨.inr rfl,_,(ry T),?_⟩
  exact wr [] rfl .nil
 rfl
end Go.Rex
namespace Go.Rex
open Go.Proofs
open Go Go.Rex Go.RowKit
set_option maxRecDepth 100000
set_option maxHeartbeats 200000
theorem uU{v1:Int}{v2:Int}(hr:gC v1=some (v2)):Spec (lim Tryz.prog) 27 [.v (.int .i64 v1)] ⟨[.v (.int .i64 v2)],[]⟩:=by
 unfold gC at hr
 have T:=trivial
 apply Spec.fn Tryz.func27 rfl
 focus (simp[Tryz.f27]<;>exact rfl)
 focus
  refine wa_ T (g:=?_)
  obtain⟨v3,h1,hr⟩:=bs hr
  apply TO.cal (wn T) rfl Ki (mT h1) rfl rfl rfl
  repeat exact sd T
  refine wa_ T (g:=?_)
  apply TO.pop1 (wn T) (kT rfl)
  repeat exact sd T
  refine wa_ T (g:=?_)
  rcases ifs hr with⟨h2,hr⟩|⟨h2,hr⟩
  ·have T:=an h2 T
   refine wa_ T (g:=?_)
   cases hr
   refine⟨.inr rfl,_,(ry T),?_⟩
   exact wk_ T [] rfl .nil
  ·have T:=an h2 T
   refine wa_ T (g:=?_)
   cases hr
   refine⟨.inr rfl,_,(ry T),?_⟩
   exact wk_ T [] rfl .nil
 rfl
end Go.Rex
namespace Go.Rex
open Go.Proofs
open Go Go.Rex Go.RowKit
set_option maxRecDepth 100000
set_option maxHeartbeats 200000
def y5:=an @ag22 <| an @ag24 <| an @ag3 <| an @by82 <| an @cs24 <| an @cs82 <| an @uL <| an @uF <| an @ni22 <| an @ok24 <| an @so22 <| an @st24 <| an @zc24 <| @zc82
theorem cA{v1:Int}{v2:(List Nat)}{v3:Int}{v4:(List Nat)}(hr:aH v1 v2=some (v3,v4)):Spec (lim Tryz.prog) 15 [.agg [.v (.int .i64 v1),.list 1 (v2.map e_f)]] ⟨[.agg [.v (.int .i64 v3),.lsl 0 0 v4.length]],[.rows 1 (v4.map e_f)]⟩:=by
 unfold aH at hr
 have T:=an y5 <| @e_f.eq_1
 apply Spec.fn Tryz.func15 rfl
 focus (simp[Tryz.f15]<;>exact rfl)
 focus
  repeat (first|(with_reducible first|refine mv ?_|refine m12 rfl ?_|refine TO.nil ?_)|((with_reducible first|apply TO.bf|apply TO.al);(repeat (focus (show _=_;first|exact k1 rfl|exact k2 rfl|(simp only[zz,y5,e_f,Nat.reduceAdd,Nat.reduceMul,Nat.reduceLeDiff,Nat.reduceEqDiff]<;>exact rfl)|exact rfl)));(with_reducible apply TO.here))|((with_reducible apply TX.region);(focus (simp only[zl]<;>exact rfl));(focus rfl);(try dsimp only))|with_reducible refine TD.nil ?_|((with_reducible first|apply TD.fa|apply TD.ld );(repeat (focus (show _=_;first|exact k1 rfl|exact k2 rfl|(simp only[zz,y5,e_f,Nat.reduceAdd,Nat.reduceMul,Nat.reduceLeDiff,Nat.reduceEqDiff,bB,tload,fB,dW,List.getElem?_map]<;>exact rfl)|exact rfl)));(with_reducible refine TD.here ?_))|((with_reducible apply TD.ldF);(focus decide +kernel);(repeat (focus (show _=_;first|exact k1 rfl|exact k2 rfl|(simp only[zz,y5,e_f,Nat.reduceAdd,Nat.reduceMul,Nat.reduceLeDiff,Nat.reduceEqDiff,bB,tload,fB,dW,List.getElem?_map]<;>exact rfl)|exact rfl)));(with_reducible refine TD.here ?_))|((with_reducible apply TX.drawn);(focus decide +kernel);(focus (simp only[zl]<;>exact rfl));(focus exact rfl);(try dsimp only))|fail)
  apply TD.bl e_f ([]:List Nat) (wn T) rfl (by simp only[zz,y5,e_f,Nat.reduceAdd,Nat.reduceMul,Nat.reduceLeDiff,Nat.reduceEqDiff,tslice,tparts];exact rfl) rfl rfl
  repeat exact sd T
  repeat (first|(with_reducible first|refine mv ?_|refine m12 rfl ?_|refine TD.nil ?_)|((with_reducible first|apply TD.fa|apply TD.ld );(repeat (focus (show _=_;first|exact k1 rfl|exact k2 rfl|(simp only[zz,y5,e_f,Nat.reduceAdd,Nat.reduceMul,Nat.reduceLeDiff,Nat.reduceEqDiff,bB,tload,fB,dW,List.getElem?_map]<;>exact rfl)|exact rfl)));(with_reducible refine TD.here ?_))|((with_reducible apply TD.ldF);(focus decide +kernel);(repeat (focus (show _=_;first|exact k1 rfl|exact k2 rfl|(simp only[zz,y5,e_f,Nat.reduceAdd,Nat.reduceMul,Nat.reduceLeDiff,Nat.reduceEqDiff,bB,tload,fB,dW,List.getElem?_map]<;>exact rfl)|exact rfl)));(with_reducible refine TD.here ?_))|((with_reducible apply TX.drawn);(focus decide +kernel);(focus (simp only[zl]<;>exact rfl));(focus exact rfl);(try dsimp only))|fail)
  obtain⟨v5,h1,hr⟩:=bs hr
  apply TD.apf (f:=e_f) (xs:=([]:List Nat)) (ys:=v2) (wn T) rfl rfl (by first|rfl|simp only[List.length_set]) rfl rfl so22 ni22 zc82 rfl (by rw[by82];exact h1) (fun _=>⟨rfl,rfl,rfl⟩) rfl
  repeat exact sd T
  refine wa_ T (g:=?_)
  cases hr
  refine⟨.inr rfl,_,(ry T),?_⟩
  exact wr [some 1] rfl (.rows .nil rfl rfl)
 rfl
end Go.Rex
namespace Go.Rex
open Go.Proofs
open Go Go.Rex Go.RowKit
set_option maxRecDepth 100000
set_option maxHeartbeats 200000
def y6:=an @ag24 <| an @ag26 <| an @cs24 <| an @cs26 <| an @ok24 <| an @ok26 <| an @st26 <| @zc26
theorem lU{v1:Int}{v2:(List Nat)}{v3:Int}{v4:(List Nat)}(hr:dR v1 v2=some (v3,v4)):Spec (lim Tryz.prog) 52 [.agg [.v (.int .i64 v1),.list 1 (v2.map e_f)]] ⟨[.agg [.v (.int .i64 v3),.list 1 (v4.map e_f),.v (.int .i64 0),.v (.int .i64 0)]],[]⟩:=by
 unfold dR at hr
 have T:=an y6 <| @e_f.eq_1
 apply Spec.fn Tryz.func52 rfl
 focus (simp[Tryz.f52]<;>exact rfl)
 focus
  refine wB T (g:=?_)
  cases hr
  refine⟨.inr rfl,_,(ry T),?_⟩
  exact wr [] rfl .nil
 rfl
end Go.Rex
namespace Go.Rex
open Go.Proofs
open Go Go.Rex Go.RowKit
set_option maxRecDepth 100000
set_option maxHeartbeats 200000
theorem bC{v1:Bool}{v2:Int}{v3:Int}(hr:aL v1 v2=some (v3)):Spec (lim Tryz.prog) 96 [.v (.bool v1),.v (.int .i64 v2)] ⟨[.v (.int .i64 v3)],[]⟩:=by
 unfold aL at hr
 have T:=trivial
 apply Spec.fn Tryz.func96 rfl
 focus (simp[Tryz.f96]<;>exact rfl)
 focus
  refine wa_ T (g:=?_)
  rcases ifs hr with⟨h1,hr⟩|⟨h1,hr⟩
  ·have T:=an h1 T
   refine wa_ T (g:=?_)
   cases hr
   refine⟨.inr rfl,_,(ry T),?_⟩
   exact wk_ T [] rfl .nil
  ·have T:=an h1 T
   refine wa_ T (g:=?_)
   cases hr
   refine⟨.inr rfl,_,(ry T),?_⟩
   exact wk_ T [] rfl .nil
 rfl
end Go.Rex
namespace Go.Rex
open Go.Proofs
open Go Go.Rex Go.RowKit
set_option maxRecDepth 100000
set_option maxHeartbeats 200000
theorem dZ{v1:Int}{v2:Int}{v3:Int}{v4:Int}(hr:cQ v1 v2 v3=some (v4)):Spec (lim Tryz.prog) 63 [.v (.int .i64 v1),.v (.int .i64 v2),.v (.int .i64 v3)] ⟨[.v (.int .i64 v4)],[]⟩:=by
 unfold cQ at hr
 have T:=trivial
 apply Spec.fn Tryz.func63 rfl
 focus (simp[Tryz.f63]<;>exact rfl)
 focus
  refine wa_ T (g:=?_)
  rcases ifs hr with⟨h1,hr⟩|⟨h1,hr⟩
  ·have T:=an h1 T
   refine wa_ T (g:=?_)
   obtain⟨v5,h2,hr⟩:=bs hr
   apply TO.cal (wn T) rfl lV (bC h2) rfl rfl rfl
   repeat exact sd T
   refine wa_ T (g:=?_)
   cases hr
   refine⟨.inr rfl,_,(ry T),?_⟩
   exact wk_ T [] rfl .nil
  ·have T:=an h1 T
   refine wa_ T (g:=?_)
   obtain⟨v6,h3,hr⟩:=bs hr
   apply TO.cal (wn T) rfl lV (bC h3) rfl rfl rfl
   repeat exact sd T
   refine wa_ T (g:=?_)
   cases hr
   refine⟨.inr rfl,_,(ry T),?_⟩
   exact wk_ T [] rfl .nil
 rfl
end Go.Rex
namespace Go.Rex
open Go.Proofs
open Go Go.Rex Go.RowKit
set_option maxRecDepth 100000
set_option maxHeartbeats 200000
theorem rW{v1:Int}{v2:Int}(hr:iV v1=some (v2)):Spec (lim Tryz.prog) 154 [.v (.int .i64 v1)] ⟨[.v (.int .i64 v2)],[]⟩:=by
 unfold iV at hr
 have T:=trivial
 apply Spec.fn Tryz.func154 rfl
 focus (simp[Tryz.f154]<;>exact rfl)
 focus
  refine wa_ T (g:=?_)
  obtain⟨v3,h1,hr⟩:=bs hr
  apply TO.cal (wn T) rfl uV (dZ h1) rfl rfl rfl
  repeat exact sd T
  refine wa_ T (g:=?_)
  cases hr
  refine⟨.inr rfl,_,(ry T),?_⟩
  exact wr [] rfl .nil
 rfl
end Go.Rex
namespace Go.Rex
open Go.Proofs
open Go Go.Rex Go.RowKit
set_option maxRecDepth 100000
set_option maxHeartbeats 200000
def y7:=an @ag31 <| an @cs31 <| an @ok31 <| an @so149 <| @lW
theorem aW{v1:(List Int)}{v2:Int}(hr:aE v1=some (v2)):Spec (lim Tryz.prog) 54 [.list 1 (v1.map e_i)] ⟨[.v (.int .i64 v2)],[]⟩:=by
 unfold aE at hr
 have T:=an y7 <| @e_i.eq_1
 apply Spec.fn Tryz.func54 rfl
 focus (simp[Tryz.f54]<;>exact rfl)
 focus
  refine wc_ T (g:=?_)
  obtain⟨v7,h7,hr⟩:=bs hr
  refine TX.loopE (step:=cU v1) (x:=0) h7 (fun v3=>⟨.junk :: .junk :: .junk :: .junk :: .junk :: .list 1 (v1.map e_i) :: .v (.int .i64 (v1.length:Int)) :: .v (.int .i64 v3) :: .junk :: .junk :: .junk :: .junk :: .junk :: .junk :: .junk::[],[]⟩) (fun e=>match e with|(.inl v5)=>(.ret,⟨.junk :: .junk :: .v (.int .i64 v5) :: .junk :: .junk :: .junk :: .junk :: .junk :: .junk :: .junk :: .junk :: .junk :: .junk :: .junk :: .junk::[],[]⟩)|(.inr _)=>(.exit 0,⟨.junk :: .junk :: .junk :: .junk :: .junk :: .junk :: .junk :: .junk :: .junk :: .junk :: .junk :: .junk :: .junk :: .junk :: .junk::[],[]⟩)) ?_ ?_ ?_ ?_
  ·rintro v3 v0 hr
   dsimp only[cU] at hr
   try dsimp only
   refine wa_ T (g:=?_)
   rcases ifs hr with⟨h4,hr⟩|⟨h4,hr⟩
   ·have T:=an h4 T
    refine wa_ T (g:=?_)
    obtain⟨v6,h5,hr⟩:=bs hr
    have T:=an (gx e_i h5) T
    refine wA T (g:=?_)
    rcases ifs hr with⟨h6,hr⟩|⟨h6,hr⟩
    ·have T:=an h6 T
     refine wa_ T (g:=?_)
     cases hr
     refine⟨rfl,?_⟩
     exact wk_ T [] rfl .nil
    ·have T:=an h6 T
     refine wa_ T (g:=?_)
     cases hr
     refine⟨rfl,?_⟩
     exact wk_ T [] rfl .nil
   ·have T:=an h4 T
    refine wa_ T (g:=?_)
    cases hr
    refine⟨rfl,?_⟩
    exact wk_ T [] rfl .nil
  ·intro e h;rcases e with _|e<;>cases h
  ·try dsimp only
   rcases v7 with v8|_
   ·try dsimp only at hr
    try dsimp only
    refine wa_ T (g:=?_)
    cases hr
    refine⟨.inr rfl,_,(ry T),?_⟩
    exact wr [] rfl .nil
   ·try dsimp only at hr
    try dsimp only
    refine wa_ T (g:=?_)
    cases hr
    refine⟨.inr rfl,_,(ry T),?_⟩
    exact wr [] rfl .nil
  ·try dsimp only
   exact wr [] rfl .nil
 rfl
end Go.Rex
namespace Go.Rex
open Go.Proofs
open Go Go.Rex Go.RowKit
set_option maxRecDepth 100000
set_option maxHeartbeats 200000
def y8:=an @Sa <| @ex194
theorem yX{v1:Nat}{v2:Nat}(hr:mM v1=some (v2)):Spec (lim Tryz.prog) 185 [.v (.float .f64 v1)] ⟨[.v (.float .f64 v2)],[]⟩:=by
 unfold mM at hr
 have T:=y8
 apply Spec.fn Tryz.func185 rfl
 focus (simp[Tryz.f185]<;>exact rfl)
 focus
  refine wa_ T (g:=?_)
  obtain⟨v3,h1,hr⟩:=bs hr
  apply TO.tr (wn T) rfl ex194 Sa (by simp only[z1,z3,zl]<;>rfl) h1
  repeat exact sd T
  refine wa_ T (g:=?_)
  cases hr
  refine⟨.inr rfl,_,(ry T),?_⟩
  exact wr [] rfl .nil
 rfl
end Go.Rex
namespace Go.Rex
open Go.Proofs
open Go Go.Rex Go.RowKit
set_option maxRecDepth 100000
set_option maxHeartbeats 200000
def y9:=an @ex200 <| @ex78
theorem Cb{v1:Nat}{v2:Nat}(hr:vC v1=some (v2)):Spec (lim Tryz.prog) 196 [.v (.float .f64 v1)] ⟨[.v (.float .f64 v2)],[]⟩:=by
 unfold vC at hr
 have T:=y9
 apply Spec.fn Tryz.func196 rfl
 focus (simp[Tryz.f196]<;>exact rfl)
 focus
  refine wa_ T (g:=?_)
  obtain⟨v3,h1,hr⟩:=bs hr
  apply TO.fb (wn T) rfl ex78 (by simp only[z1,z3,zl]<;>rfl) h1 rfl
  repeat exact sd T
  refine wa_ T (g:=?_)
  apply TO.pop1 (wn T) (oM rfl rfl (by decide))
  repeat exact sd T
  refine wa_ T (g:=?_)
  apply TO.ex (wn T) rfl ex200 (by simp only[z1,z3,zl];exact rfl) rfl rfl (rfl) rfl rfl rfl
  repeat exact sd T
  refine wa_ T (g:=?_)
  cases hr
  refine⟨.inr rfl,_,(ry T),?_⟩
  exact wr [] rfl .nil
 rfl
end Go.Rex
namespace Go.Rex
open Go.Proofs
open Go Go.Rex Go.RowKit
set_option maxRecDepth 100000
set_option maxHeartbeats 200000
theorem yY{v1:Nat}{v2:Int}{v3:Bool}(hr:oH v1 v2=some (v3)):Spec (lim Tryz.prog) 186 [.v (.float .f64 v1),.v (.int .i64 v2)] ⟨[.v (.bool v3)],[]⟩:=by
 unfold oH at hr
 have T:=trivial
 apply Spec.fn Tryz.func186 rfl
 focus (simp[Tryz.f186]<;>exact rfl)
 focus
  refine wa_ T (g:=?_)
  rcases ifs hr with⟨h1,hr⟩|⟨h1,hr⟩
  ·have T:=an h1 T
   refine wa_ T (g:=?_)
   obtain⟨v4,h2,hr⟩:=bs hr
   apply TO.cal (wn T) rfl Wp (Cb h2) rfl rfl rfl
   repeat exact sd T
   refine wa_ T (g:=?_)
   apply TO.pop1 (wn T) (gL rfl rfl (by decide))
   repeat exact sd T
   refine wa_ T (g:=?_)
   cases hr
   refine⟨.inr rfl,_,(ry T),?_⟩
   exact wk_ T [] rfl .nil
  ·have T:=an h1 T
   refine wa_ T (g:=?_)
   rcases ifs hr with⟨h3,hr⟩|⟨h3,hr⟩
   ·have T:=an h3 T
    refine wa_ T (g:=?_)
    apply TO.pop1 (wn T) (Qs rfl)
    repeat exact sd T
    refine wa_ T (g:=?_)
    apply TO.pop1 (wn T) (gL rfl rfl (by decide))
    repeat exact sd T
    refine wa_ T (g:=?_)
    cases hr
    refine⟨.inr rfl,_,(ry T),?_⟩
    exact wk_ T [] rfl .nil
   ·have T:=an h3 T
    refine wa_ T (g:=?_)
    apply TO.pop1 (wn T) (gL rfl rfl (by decide))
    repeat exact sd T
    refine wa_ T (g:=?_)
    cases hr
    refine⟨.inr rfl,_,(ry T),?_⟩
    exact wk_ T [] rfl .nil
 rfl
end Go.Rex
namespace Go.Rex
open Go.Proofs
open Go Go.Rex Go.RowKit
set_option maxRecDepth 100000
set_option maxHeartbeats 200000
def y10:=an @un121 <| @un82
theorem tX{v1:Nat}{v2:Bool}(hr:cN v1=some (v2)):Spec (lim Tryz.prog) 169 [.v (.float .f32 v1)] ⟨[.v (.bool v2)],[]⟩:=by
 unfold cN at hr
 have T:=y10
 apply Spec.fn Tryz.func169 rfl
 focus (simp[Tryz.f169]<;>exact rfl)
 focus
  refine wa_ T (g:=?_)
  obtain⟨v3,h1,hr⟩:=bs hr
  apply TO.pop1 (wn T) (rV un82 un121 rfl h1)
  repeat exact sd T
  refine wa_ T (g:=?_)
  obtain⟨v4,h2,hr⟩:=bs hr
  apply TO.cal (wn T) rfl Uw (yX h2) rfl rfl rfl
  repeat exact sd T
  refine wa_ T (g:=?_)
  apply TO.pop1 (wn T) (gL rfl rfl (by decide))
  repeat exact sd T
  refine wa_ T (g:=?_)
  rcases ifs hr with⟨h3,hr⟩|⟨h3,hr⟩
  ·have T:=an h3 T
   refine wa_ T (g:=?_)
   obtain⟨v5,h4,hr⟩:=bs hr
   apply TO.cal (wn T) rfl Wi (yY h4) rfl rfl rfl
   repeat exact sd T
   refine wa_ T (g:=?_)
   apply TO.pop1 (wn T) (kT rfl)
   repeat exact sd T
   refine wa_ T (g:=?_)
   cases hr
   refine⟨.inr rfl,_,(ry T),?_⟩
   exact wk_ T [] rfl .nil
  ·have T:=an h3 T
   refine wa_ T (g:=?_)
   cases hr
   refine⟨.inr rfl,_,(ry T),?_⟩
   exact wk_ T [] rfl .nil
 rfl
end Go.Rex
namespace Go.Rex
open Go.Proofs
open Go Go.Rex Go.RowKit
set_option maxRecDepth 100000
set_option maxHeartbeats 200000
def y11:=an @cs31 <| an @so149 <| @zc31
theorem qU{v1:Nat}{v2:Int}(hr:cB v1=some (v2)):Spec (lim Tryz.prog) 155 [.v (.float .f32 v1)] ⟨[.v (.int .i64 v2)],[]⟩:=by
 unfold cB at hr
 have T:=an y11 <| @e_i.eq_1
 apply Spec.fn Tryz.func155 rfl
 focus (simp[Tryz.f155]<;>exact rfl)
 focus
  refine wa_ T (g:=?_)
  obtain⟨v3,h1,hr⟩:=bs hr
  apply TO.cal (wn T) rfl Wh (tX h1) rfl rfl rfl
  repeat exact sd T
  refine wa_ T (g:=?_)
  apply TO.pop1 (wn T) (kT rfl)
  repeat exact sd T
  refine wa_ T (g:=?_)
  obtain⟨v4,h2,hr⟩:=bs hr
  apply TO.cal (wn T) rfl lV (bC h2) rfl rfl rfl
  repeat exact sd T
  refine wa_ T (g:=?_)
  apply TO.pop1 (wn T) (gL rfl rfl (by decide))
  repeat exact sd T
  refine wa_ T (g:=?_)
  rcases ifs hr with⟨h3,hr⟩|⟨h3,hr⟩
  ·have T:=an h3 T
   refine wa_ T (g:=?_)
   obtain⟨v5,h4,hr⟩:=bs hr
   apply TO.cal (wn T) rfl lV (bC h4) rfl rfl rfl
   repeat exact sd T
   refine wa_ T (g:=?_)
   apply TO.bm e_i ([v4,v5]:List Int) (wn T) rfl (by simp only[zz,y11,e_i,Nat.reduceAdd,Nat.reduceMul,Nat.reduceLeDiff,Nat.reduceEqDiff,tslice,tparts,h3];exact rfl) rfl
   repeat exact sd T
   refine wa_ T (g:=?_)
   obtain⟨v6,h5,hr⟩:=bs hr
   apply TO.cal (wn T) rfl nR (aW h5) rfl rfl rfl
   repeat exact sd T
   refine wa_ T (g:=?_)
   cases hr
   refine⟨.inr rfl,_,(ry T),?_⟩
   exact wk_ T [] rfl .nil
  ·have T:=an h3 T
   refine wa_ T (g:=?_)
   apply TO.pop1 (wn T) (gL rfl rfl (by decide))
   repeat exact sd T
   refine wa_ T (g:=?_)
   obtain⟨v7,h6,hr⟩:=bs hr
   apply TO.cal (wn T) rfl lV (bC h6) rfl rfl rfl
   repeat exact sd T
   refine wa_ T (g:=?_)
   apply TO.bm e_i ([v4,v7]:List Int) (wn T) rfl (by simp only[zz,y11,e_i,Nat.reduceAdd,Nat.reduceMul,Nat.reduceLeDiff,Nat.reduceEqDiff,tslice,tparts,h3];exact rfl) rfl
   repeat exact sd T
   refine wa_ T (g:=?_)
   obtain⟨v8,h7,hr⟩:=bs hr
   apply TO.cal (wn T) rfl nR (aW h7) rfl rfl rfl
   repeat exact sd T
   refine wa_ T (g:=?_)
   cases hr
   refine⟨.inr rfl,_,(ry T),?_⟩
   exact wk_ T [] rfl .nil
 rfl
end Go.Rex
namespace Go.Rex
open Go.Proofs
open Go Go.Rex Go.RowKit
set_option maxRecDepth 100000
set_option maxHeartbeats 1000000
def y12:=an @ag22 <| an @ag3 <| an @ag82 <| an @cs31 <| an @cs82 <| an @uL <| an @uF <| an @ok82 <| an @so149 <| an @so22 <| an @zc31 <| @lW
theorem oY{v1:Int}{v2:(List Nat)}{v3:Int}{v4:Int}(hr:eC v1 v2=some (v3,v4)):Spec (lim Tryz.prog) 139 [.agg [.v (.int .i64 v1),.list 1 (v2.map e_f)]] ⟨[.tuple [.v (.int .i64 v3),.v (.int .i64 v4)]],[]⟩:=by
 unfold eC at hr
 have T:=an y12 <| an @e_f.eq_1 <| @e_i.eq_1
 apply Spec.fn Tryz.func139 rfl
 focus (simp[Tryz.f139]<;>exact rfl)
 focus
  refine wB T (g:=?_)
  obtain⟨v5,h1,hr⟩:=bs hr
  apply TD.cal (wn T) rfl Wx (rW h1) rfl rfl rfl
  repeat exact sd T
  refine wC T (g:=?_)
  obtain⟨v6,h2,hr⟩:=bs hr
  apply TD.cal (wn T) rfl lV (bC h2) rfl rfl rfl
  repeat exact sd T
  refine wC T (g:=?_)
  obtain⟨v7,h3,hr⟩:=bs hr
  apply TD.cal (wn T) rfl lV (bC h3) rfl rfl rfl
  repeat exact sd T
  refine wa_ T (g:=?_)
  apply TD.bm e_i ([v5,v6,v7]:List Int) (wn T) rfl (by simp only[zz,y12,e_f,e_i,Nat.reduceAdd,Nat.reduceMul,Nat.reduceLeDiff,Nat.reduceEqDiff,tslice,tparts];exact rfl) rfl
  repeat exact sd T
  refine wa_ T (g:=?_)
  obtain⟨v8,h4,hr⟩:=bs hr
  apply TD.cal (wn T) rfl nR (aW h4) rfl rfl rfl
  repeat exact sd T
  refine wa_ T (g:=?_)
  rcases ifs hr with⟨h5,hr⟩|⟨h5,hr⟩
  ·have T:=an h5 T
   refine wa_ T (g:=?_)
   cases hr
   refine⟨.inr rfl,_,(ry T),?_⟩
   exact wk_ T [] rfl .nil
  ·have T:=an h5 T
   refine wC T (g:=?_)
   obtain⟨v16,h14,hr⟩:=bs hr
   refine TX.loopE (step:=bL v2) (x:=0) h14 (fun v9=>⟨.junk :: .junk :: .junk :: .junk :: .junk :: .junk :: .junk :: .junk :: .junk :: .junk :: .junk :: .junk :: .junk :: .junk :: .junk :: .junk :: .junk :: .junk :: .junk :: .junk :: .junk :: .junk :: .junk :: .junk :: .junk :: .junk :: .junk :: .list 1 (v2.map e_f) :: .v (.int .i64 (v2.length:Int)) :: .v (.int .i64 v9) :: .junk :: .junk :: .junk :: .junk :: .junk :: .junk :: .junk :: .junk :: .junk :: .junk :: .junk::[],[]⟩) (fun e=>match e with|(.inl (v12,v13))=>(.ret,⟨.junk :: .junk :: .v (.int .i64 v12) :: .v (.int .i64 v13) :: .junk :: .junk :: .junk :: .junk :: .junk :: .junk :: .junk :: .junk :: .junk :: .junk :: .junk :: .junk :: .junk :: .junk :: .junk :: .junk :: .junk :: .junk :: .junk :: .junk :: .junk :: .junk :: .junk :: .junk :: .junk :: .junk :: .junk :: .junk :: .junk :: .junk :: .junk :: .junk :: .junk :: .junk :: .junk :: .junk :: .junk::[],[]⟩)|(.inr _)=>(.exit 0,⟨.junk :: .junk :: .junk :: .junk :: .junk :: .junk :: .junk :: .junk :: .junk :: .junk :: .junk :: .junk :: .junk :: .junk :: .junk :: .junk :: .junk :: .junk :: .junk :: .junk :: .junk :: .junk :: .junk :: .junk :: .junk :: .junk :: .junk :: .junk :: .junk :: .junk :: .junk :: .junk :: .junk :: .junk :: .junk :: .junk :: .junk :: .junk :: .junk :: .junk :: .junk::[],[]⟩)) ?_ ?_ ?_ ?_
   ·rintro v9 v0 hr
    dsimp only[bL] at hr
    try dsimp only
    refine wa_ T (g:=?_)
    rcases ifs hr with⟨h10,hr⟩|⟨h10,hr⟩
    ·have T:=an h10 T
     refine wa_ T (g:=?_)
     obtain⟨v14,h11,hr⟩:=bs hr
     have T:=an (gx e_f h11) T
     refine wA T (g:=?_)
     obtain⟨v15,h12,hr⟩:=bs hr
     apply TO.cal (wn T) rfl Ww (qU h12) rfl rfl rfl
     repeat exact sd T
     refine wa_ T (g:=?_)
     rcases ifs hr with⟨h13,hr⟩|⟨h13,hr⟩
     ·have T:=an h13 T
      refine wa_ T (g:=?_)
      cases hr
      refine⟨rfl,?_⟩
      exact wk_ T [] rfl .nil
     ·have T:=an h13 T
      refine wa_ T (g:=?_)
      cases hr
      refine⟨rfl,?_⟩
      exact wk_ T [] rfl .nil
    ·have T:=an h10 T
     refine wa_ T (g:=?_)
     cases hr
     refine⟨rfl,?_⟩
     exact wk_ T [] rfl .nil
   ·intro e h;rcases e with _|e<;>cases h
   ·try dsimp only
    rcases v16 with⟨v17,v18⟩|_
    ·try dsimp only at hr
     try dsimp only
     refine wa_ T (g:=?_)
     cases hr
     refine⟨.inr rfl,_,(ry T),?_⟩
     exact wk_ T [] rfl .nil
    ·try dsimp only at hr
     try dsimp only
     refine wa_ T (g:=?_)
     cases hr
     refine⟨.inr rfl,_,(ry T),?_⟩
     exact wk_ T [] rfl .nil
   ·try dsimp only
    exact wk_ T [] rfl .nil
 rfl
end Go.Rex
namespace Go.Rex
open Go.Proofs
open Go Go.Rex Go.RowKit
set_option maxRecDepth 100000
set_option maxHeartbeats 200000
def y13:=an @ag24 <| an @ag3 <| an @cs24 <| an @cs31 <| an @sG <| an @Tg <| an @Lg <| an @ok24 <| an @so149 <| @zc31
theorem tE{v1:Int}{v2:(List Nat)}{v3:Int}{v4:Int}{v5:Int}{v6:Int}(hr:hG v1 v2 v3 v4=some (v5,v6)):Spec (lim Tryz.prog) 95 [.agg [.v (.int .i64 v1),.list 1 (v2.map e_f),.v (.int .i64 v3),.v (.int .i64 v4)]] ⟨[.tuple [.v (.int .i64 v5),.v (.int .i64 v6)]],[]⟩:=by
 unfold hG at hr
 have T:=an y13 <| an @e_f.eq_1 <| @e_i.eq_1
 apply Spec.fn Tryz.func95 rfl
 focus (simp[Tryz.f95]<;>exact rfl)
 focus
  refine wB T (g:=?_)
  obtain⟨⟨v7,v8⟩,h1,hr⟩:=bs hr
  try dsimp only at hr
  apply TO.cal (wn T) rfl Wq (oY h1) rfl rfl rfl
  repeat exact sd T
  refine wa_ T (g:=?_)
  rcases ifs hr with⟨h2,hr⟩|⟨h2,hr⟩
  ·have T:=an h2 T
   refine wa_ T (g:=?_)
   cases hr
   refine⟨.inr rfl,_,(ry T),?_⟩
   exact wk_ T [] rfl .nil
  ·have T:=an h2 T
   refine wA T (g:=?_)
   obtain⟨v9,h3,hr⟩:=bs hr
   apply TD.cal (wn T) rfl uV (dZ h3) rfl rfl rfl
   repeat exact sd T
   refine wA T (g:=?_)
   obtain⟨v10,h4,hr⟩:=bs hr
   apply TD.cal (wn T) rfl uV (dZ h4) rfl rfl rfl
   repeat exact sd T
   refine wa_ T (g:=?_)
   apply TD.bm e_i ([v9,v10]:List Int) (wn T) rfl (by simp only[zz,y13,e_f,e_i,Nat.reduceAdd,Nat.reduceMul,Nat.reduceLeDiff,Nat.reduceEqDiff,tslice,tparts,h2];exact rfl) rfl
   repeat exact sd T
   refine wa_ T (g:=?_)
   obtain⟨v11,h5,hr⟩:=bs hr
   apply TD.cal (wn T) rfl nR (aW h5) rfl rfl rfl
   repeat exact sd T
   refine wa_ T (g:=?_)
   cases hr
   refine⟨.inr rfl,_,(ry T),?_⟩
   exact wk_ T [] rfl .nil
 rfl
end Go.Rex
namespace Go.Rex
open Go.Proofs
open Go Go.Rex Go.RowKit
set_option maxRecDepth 100000
set_option maxHeartbeats 200000
def y14:=an @ag26 <| an @ag94 <| an @cs26 <| an @cs94 <| an @ok26 <| an @ok94 <| an @st94 <| @zc94
theorem iQ{v1:Int}{v2:(List Nat)}{v3:Int}{v4:Int}{v5:Int}{v6:(List Nat)}{v7:Int}{v8:Int}{v9:Int}(hr:dL v1 v2 v3 v4=some (v5,v6,v7,v8,v9)):Spec (lim Tryz.prog) 53 [.agg [.v (.int .i64 v1),.list 1 (v2.map e_f),.v (.int .i64 v3),.v (.int .i64 v4)]] ⟨[.tuple [.agg [.v (.int .i64 v5),.list 1 (v6.map e_f),.v (.int .i64 v7),.v (.int .i64 v8)],.v (.int .i64 v9)]],[]⟩:=by
 unfold dL at hr
 have T:=an y14 <| @e_f.eq_1
 apply Spec.fn Tryz.func53 rfl
 focus (simp[Tryz.f53]<;>exact rfl)
 focus
  refine wB T (g:=?_)
  obtain⟨⟨v10,v11⟩,h1,hr⟩:=bs hr
  try dsimp only at hr
  apply TO.cal (wn T) rfl Yj (tE h1) rfl rfl rfl
  repeat exact sd T
  refine wA T (g:=?_)
  cases hr
  refine⟨.inr rfl,_,(ry T),?_⟩
  exact wr [] rfl .nil
 rfl
end Go.Rex
namespace Go.Rex
open Go.Proofs
open Go Go.Rex Go.RowKit
set_option maxRecDepth 100000
set_option maxHeartbeats 200000
def y15:=an @ag22 <| an @uF <| an @sG <| an @uW <| @so22
theorem bS{v1:Int}{v2:(List Nat)}{v3:Int}{v4:Int}{v5:Int}(hr:aK v1 v2 v3 v4=some (v5)):Spec (lim Tryz.prog) 113 [.agg [.v (.int .i64 v1),.list 1 (v2.map e_f),.v (.int .i64 v3),.v (.int .i64 v4)]] ⟨[.v (.int .i64 v5)],[]⟩:=by
 unfold aK at hr
 have T:=an y15 <| @e_f.eq_1
 apply Spec.fn Tryz.func113 rfl
 focus (simp[Tryz.f113]<;>exact rfl)
 focus
  refine wD T (g:=?_)
  cases hr
  refine⟨.inr rfl,_,(ry T),?_⟩
  exact wr [] rfl .nil
 rfl
end Go.Rex
namespace Go.Rex
open Go.Proofs
open Go Go.Rex Go.RowKit
set_option maxRecDepth 100000
set_option maxHeartbeats 200000
def y16:=an @ag100 <| an @cs100 <| an @ok100 <| an @st100 <| an @st30 <| an @zc100 <| @zc30
theorem bG{v1:Int}{v2:Int}{v3:Int}{v4:Int}(hr:aJ v1 v2=some (v3,v4)):Spec (lim Tryz.prog) 114 [.v (.int .i64 v1),.v (.int .i64 v2)] ⟨[.agg [.v (.int .i64 v3),.v (.int .i64 v4)]],[]⟩:=by
 unfold aJ at hr
 have T:=y16
 apply Spec.fn Tryz.func114 rfl
 focus (simp[Tryz.f114]<;>exact rfl)
 focus
  refine wa_ T (g:=?_)
  cases hr
  refine⟨.inr rfl,_,(ry T),?_⟩
  exact wr [] rfl .nil
 rfl
end Go.Rex
namespace Go.Rex
open Go.Proofs
open Go Go.Rex Go.RowKit
set_option maxRecDepth 100000
set_option maxHeartbeats 200000
def y17:=an @ag100 <| an @ag3 <| an @cs100 <| an @Lg <| an @uW <| an @ok100 <| @zc100
theorem pU{v1:Int}{v2:(List Nat)}{v3:Int}{v4:Int}{v5:Int}{v6:Int}(hr:fW v1 v2 v3 v4=some (v5,v6)):Spec (lim Tryz.prog) 136 [.agg [.v (.int .i64 v1),.list 1 (v2.map e_f),.v (.int .i64 v3),.v (.int .i64 v4)]] ⟨[.agg [.v (.int .i64 v5),.v (.int .i64 v6)]],[]⟩:=by
 unfold fW at hr
 have T:=an y17 <| @e_f.eq_1
 apply Spec.fn Tryz.func136 rfl
 focus (simp[Tryz.f136]<;>exact rfl)
 focus
  refine wB T (g:=?_)
  obtain⟨⟨v7,v8⟩,h1,hr⟩:=bs hr
  try dsimp only at hr
  apply TO.cal (wn T) rfl kV (bG h1) rfl rfl rfl
  repeat exact sd T
  refine wa_ T (g:=?_)
  cases hr
  refine⟨.inr rfl,_,(ry T),?_⟩
  exact wr [] rfl .nil
 rfl
end Go.Rex
namespace Go.Rex
open Go.Proofs
open Go Go.Rex Go.RowKit
set_option maxRecDepth 100000
set_option maxHeartbeats 200000
def y18:=an @ag100 <| an @ag22 <| an @ag3 <| an @ag82 <| an @cs100 <| an @cs82 <| an @uF <| an @sG <| an @Tg <| an @uW <| an @ok100 <| an @ok82 <| an @so22 <| an @un3 <| an @un82 <| @zc100
theorem iK{v1:Int}{v2:(List Nat)}{v3:Int}{v4:Int}{v5:Int}{v6:Int}{v7:Int}(hr:dG v1 v2 v3 v4 v5=some (v6,v7)):Spec (lim Tryz.prog) 121 [.agg [.v (.int .i64 v1),.list 1 (v2.map e_f),.v (.int .i64 v3),.v (.int .i64 v4)],.v (.int .i64 v5)] ⟨[.agg [.v (.int .i64 v6),.v (.int .i64 v7)]],[]⟩:=by
 unfold dG at hr
 have T:=an y18 <| @e_f.eq_1
 apply Spec.fn Tryz.func121 rfl
 focus (simp[Tryz.f121]<;>exact rfl)
 focus
  refine wB T (g:=?_)
  obtain⟨v8,h1,hr⟩:=bs hr
  have T:=an (gx e_f h1) T
  refine wA T (g:=?_)
  obtain⟨v9,h2,hr⟩:=bs hr
  apply TO.pop1 (wn T) (uA un82 un3 rfl h2)
  repeat exact sd T
  refine wa_ T (g:=?_)
  apply TO.pop1 (wn T) (Em rfl)
  repeat exact sd T
  refine wa_ T (g:=?_)
  apply TO.pop1 (wn T) (pC rfl rfl)
  repeat exact sd T
  refine wA T (g:=?_)
  apply TD.pop1 (wn T) (pC rfl rfl)
  repeat exact sd T
  refine wA T (g:=?_)
  obtain⟨⟨v10,v11⟩,h3,hr⟩:=bs hr
  try dsimp only at hr
  apply TO.cal (wn T) rfl kV (bG h3) rfl rfl rfl
  repeat exact sd T
  refine wa_ T (g:=?_)
  cases hr
  refine⟨.inr rfl,_,(ry T),?_⟩
  exact wr [] rfl .nil
 rfl
end Go.Rex
namespace Go.Rex
open Go.Proofs
open Go Go.Rex Go.RowKit
set_option maxRecDepth 100000
set_option maxHeartbeats 200000
def y19:=an @ag100 <| an @ag3 <| an @cs100 <| an @gS <| an @lX <| an @oK <| an @ok100 <| @zc100
theorem jN{v1:Int}{v2:Int}{v3:Int}{v4:Int}{v5:Int}{v6:Int}(hr:eD v1 v2 v3 v4=some (v5,v6)):Spec (lim Tryz.prog) 137 [.agg [.v (.int .i64 v1),.v (.int .i64 v2)],.agg [.v (.int .i64 v3),.v (.int .i64 v4)]] ⟨[.agg [.v (.int .i64 v5),.v (.int .i64 v6)]],[]⟩:=by
 unfold eD at hr
 have T:=y19
 apply Spec.fn Tryz.func137 rfl
 focus (simp[Tryz.f137]<;>exact rfl)
 focus
  refine wB T (g:=?_)
  obtain⟨⟨v7,v8⟩,h1,hr⟩:=bs hr
  try dsimp only at hr
  apply TO.cal (wn T) rfl kV (bG h1) rfl rfl rfl
  repeat exact sd T
  refine wa_ T (g:=?_)
  cases hr
  refine⟨.inr rfl,_,(ry T),?_⟩
  exact wr [] rfl .nil
 rfl
end Go.Rex
namespace Go.Rex
open Go.Proofs
open Go Go.Rex Go.RowKit
set_option maxRecDepth 100000
set_option maxHeartbeats 1000000
def y20:=an @ag100 <| an @ag94 <| an @by100 <| an @cs100 <| an @cs94 <| an @ok100 <| an @ok94 <| an @so141 <| @zc100
theorem gB{v1:Int}{v2:(List Nat)}{v3:Int}{v4:Int}{v5:(List (Int×Int))}(hr:cG v1 v2 v3 v4=some (v5)):Spec (lim Tryz.prog) 90 [.agg [.v (.int .i64 v1),.list 1 (v2.map e_f),.v (.int .i64 v3),.v (.int .i64 v4)]] ⟨[.lsl 0 0 v5.length],[.rows 2 (v5.map e_ii)]⟩:=by
 unfold cG at hr
 have T:=an y20 <| an @e_f.eq_1 <| @e_ii.eq_1
 apply Spec.fn Tryz.func90 rfl
 focus (simp[Tryz.f90]<;>exact rfl)
 focus
  refine wB T (g:=?_)
  obtain⟨v6,h1,hr⟩:=bs hr
  apply TO.cal (wn T) rfl pR (bS h1) rfl rfl rfl
  repeat exact sd T
  refine wa_ T (g:=?_)
  obtain⟨v7,h2,hr⟩:=bs hr
  apply TO.mk e_ii h2 (wn T) rfl rfl so141 zc100 by100 rfl rfl rfl
  repeat exact sd T
  refine wA T (g:=?_)
  obtain⟨v8,h3,hr⟩:=bs hr
  apply TD.cal (wn T) rfl pR (bS h3) rfl rfl rfl
  repeat exact sd T
  refine wA T (g:=?_)
  obtain⟨⟨v9,v10⟩,h4,hr⟩:=bs hr
  try dsimp only at hr
  apply TD.cal (wn T) rfl Vi (pU h4) rfl rfl rfl
  repeat exact sd T
  refine wa_ T (g:=?_)
  obtain⟨⟨v11,v12⟩,h5,hr⟩:=bs hr
  try dsimp only at hr
  have h5m:=qF (f:=e_ii) h5
  have h5l:=mZ h5
  try simp only[List.length_set] at h5l
  have h5a:=pQ h5
  have T:=an h5m T
  have T:=an h5l T
  have T:=an h5a T
  refine wa_ T (g:=?_)
  apply TD.sr e_ii v7 (v11,v12) (v9,v10) h5a (wn T) rfl rfl rfl rfl rfl ok100 (by rw[cs100];rfl) rfl rfl rfl rfl rfl
  repeat exact sd T
  refine wA T (g:=?_)
  obtain⟨v13,h6,hr⟩:=bs hr
  apply TO.cal (wn T) rfl pR (bS h6) rfl rfl rfl
  repeat exact sd T
  refine wa_ T (g:=?_)
  obtain⟨v33,h17,hr⟩:=bs hr
  refine TX.loopE (step:=eN v1 v2 v3 v4) (x:=((v7.set v8.toNat (v9,v10)),(IntKind.i64.wrap (v13-1)))) h17 (fun (v14,v15)=>⟨.junk :: .fptr true [.v (.int .i64 v1),.list 1 (v2.map e_f),.v (.int .i64 v3),.v (.int .i64 v4)] 0 :: .junk :: .lsl 0 0 v14.length :: .v (.int .i64 v15) :: .junk :: .junk :: .junk :: .junk :: .junk :: .junk :: .junk :: .junk :: .junk :: .junk :: .junk :: .junk :: .junk :: .junk :: .junk :: .junk :: .junk :: .junk :: .junk :: .junk :: .junk :: .junk :: .junk :: .junk :: .junk :: .junk :: .junk :: .junk :: .junk :: .junk::[],[.rows 2 (v14.map e_ii)]⟩) (fun v24=>(.exit 0,⟨.junk :: .junk :: .junk :: .lsl 0 0 v24.length :: .junk :: .junk :: .junk :: .junk :: .junk :: .junk :: .junk :: .junk :: .junk :: .junk :: .junk :: .junk :: .junk :: .junk :: .junk :: .junk :: .junk :: .junk :: .junk :: .junk :: .junk :: .junk :: .junk :: .junk :: .junk :: .junk :: .junk :: .junk :: .junk :: .junk :: .junk::[],[.rows 2 (v24.map e_ii)]⟩)) ?_ ?_ ?_ ?_
  ·rintro⟨v14,v15⟩ v0 hr
   dsimp only[eN] at hr
   try dsimp only
   refine wa_ T (g:=?_)
   rcases ifs hr with⟨h12,hr⟩|⟨h12,hr⟩
   ·have T:=an h12 T
    refine wa_ T (g:=?_)
    obtain⟨⟨v25,v26⟩,h13,hr⟩:=bs hr
    try dsimp only at hr
    have h13m:=qF (f:=e_ii) h13
    have h13l:=mZ h13
    try simp only[List.length_set] at h13l
    have h13a:=pQ h13
    have T:=an h13m T
    have T:=an h13l T
    have T:=an h13a T
    refine wA T (g:=?_)
    obtain⟨⟨v27,v28⟩,h14,hr⟩:=bs hr
    try dsimp only at hr
    apply TD.cal (wn T) rfl Dv (iK h14) rfl rfl rfl
    repeat exact sd T
    refine wa_ T (g:=?_)
    obtain⟨⟨v29,v30⟩,h15,hr⟩:=bs hr
    try dsimp only at hr
    apply TD.cal (wn T) rfl Ft (jN h15) rfl rfl rfl
    repeat exact sd T
    refine wa_ T (g:=?_)
    obtain⟨⟨v31,v32⟩,h16,hr⟩:=bs hr
    try dsimp only at hr
    have h16m:=qF (f:=e_ii) h16
    have h16l:=mZ h16
    try simp only[List.length_set] at h16l
    have h16a:=pQ h16
    have T:=an h16m T
    have T:=an h16l T
    have T:=an h16a T
    refine wa_ T (g:=?_)
    apply TD.sr e_ii v14 (v31,v32) (v29,v30) h16a (wn T) rfl rfl rfl rfl rfl ok100 (by rw[cs100];rfl) rfl rfl rfl rfl rfl
    repeat exact sd T
    refine wa_ T (g:=?_)
    cases hr
    refine⟨rfl,?_⟩
    exact wk_ T [some 0] rfl (.rows .nil rfl rfl)
   ·have T:=an h12 T
    refine wa_ T (g:=?_)
    cases hr
    refine⟨rfl,?_⟩
    exact wk_ T [some 0] rfl (.rows .nil rfl rfl)
  ·intro e h;cases h
  ·try dsimp only
   refine wa_ T (g:=?_)
   cases hr
   refine⟨.inr rfl,_,(ry T),?_⟩
   exact wr [some 0] rfl (.rows .nil rfl rfl)
  ·try dsimp only
   exact wr [some 0] rfl (.rows .nil rfl rfl)
 rfl
end Go.Rex
namespace Go.Rex
open Go.Proofs
open Go Go.Rex Go.RowKit
set_option maxRecDepth 100000
set_option maxHeartbeats 200000
def y21:=an @lW <| @Nr
theorem fP{v1:Int}{v2:Int}(hr:dU v1=some (v2)):Spec (lim Tryz.prog) 138 [.v (.int .i64 v1)] ⟨[.v (.int .i64 v2)],[]⟩:=by
 unfold dU at hr
 have T:=y21
 apply Spec.fn Tryz.func138 rfl
 focus (simp[Tryz.f138]<;>exact rfl)
 focus
  refine wa_ T (g:=?_)
  obtain⟨v6,h3,hr⟩:=bs hr
  refine TX.loopE (step:=dT v1) (x:=(1,0)) h3 (fun (v3,v4)=>⟨[.junk,.junk,.junk,.v (.int .i64 v3),.v (.int .i64 v1),.v (.int .i64 v4),.junk,.junk,.junk,.junk,.junk],[]⟩) (fun v5=>(.exit 0,⟨[.junk,.junk,.junk,.v (.int .i64 v5),.junk,.junk,.junk,.junk,.junk,.junk,.junk],[]⟩)) ?_ ?_ ?_ ?_
  ·rintro⟨v3,v4⟩ v0 hr
   dsimp only[dT] at hr
   try dsimp only
   refine wa_ T (g:=?_)
   rcases ifs hr with⟨h2,hr⟩|⟨h2,hr⟩
   ·have T:=an h2 T
    refine wa_ T (g:=?_)
    cases hr
    refine⟨rfl,?_⟩
    exact wk_ T [] rfl .nil
   ·have T:=an h2 T
    refine wa_ T (g:=?_)
    cases hr
    refine⟨rfl,?_⟩
    exact wk_ T [] rfl .nil
  ·intro e h;cases h
  ·try dsimp only
   refine wa_ T (g:=?_)
   cases hr
   refine⟨.inr rfl,_,(ry T),?_⟩
   exact wr [] rfl .nil
  ·try dsimp only
   exact wr [] rfl .nil
 rfl
end Go.Rex
namespace Go.Rex
open Go.Proofs
open Go Go.Rex Go.RowKit
set_option maxRecDepth 100000
set_option maxHeartbeats 200000
theorem sN{v1:Int}{v2:Int}{v3:Int}{v4:Int}(hr:fS v1 v2=some (v3,v4)):Spec (lim Tryz.prog) 143 [.v (.int .u64 v1),.v (.int .u64 v2)] ⟨[.tuple [.v (.int .u64 v3),.v (.int .u64 v4)]],[]⟩:=by
 unfold fS at hr
 have T:=trivial
 apply Spec.fn Tryz.func143 rfl
 focus (simp[Tryz.f143]<;>exact rfl)
 focus
  refine wa_ T (g:=?_)
  apply TO.pop1 (wn T) (oM rfl rfl (by decide))
  repeat exact sd T
  refine wa_ T (g:=?_)
  obtain⟨v5,h1,hr⟩:=bs hr
  apply TO.pop1 (wn T) (dE rfl rfl (by decide) (h1))
  repeat exact sd T
  refine wa_ T (g:=?_)
  apply TO.pop1 (wn T) (oM rfl rfl (by decide))
  repeat exact sd T
  refine wa_ T (g:=?_)
  obtain⟨v6,h2,hr⟩:=bs hr
  apply TO.pop1 (wn T) (dE rfl rfl (by decide) (h2))
  repeat exact sd T
  refine wa_ T (g:=?_)
  obtain⟨v7,h3,hr⟩:=bs hr
  apply TO.pop1 (wn T) (dE rfl rfl (by decide) (h3))
  repeat exact sd T
  refine wa_ T (g:=?_)
  apply TO.pop1 (wn T) (oM rfl rfl (by decide))
  repeat exact sd T
  refine wa_ T (g:=?_)
  obtain⟨v8,h4,hr⟩:=bs hr
  apply TO.pop1 (wn T) (dE rfl rfl (by decide) (h4))
  repeat exact sd T
  refine wa_ T (g:=?_)
  obtain⟨v9,h5,hr⟩:=bs hr
  apply TO.pop1 (wn T) (dE rfl rfl (by decide) (h5))
  repeat exact sd T
  refine wa_ T (g:=?_)
  cases hr
  refine⟨.inr rfl,_,(ry T),?_⟩
  exact wr [] rfl .nil
 rfl
end Go.Rex
namespace Go.Rex
open Go.Proofs
open Go Go.Rex Go.RowKit
set_option maxRecDepth 100000
set_option maxHeartbeats 200000
def y22:=an @ag162 <| an @cs162 <| an @ok162 <| an @st162 <| an @un122 <| an @un3 <| @zc162
theorem cR{v1:Int}{v2:Int}{v3:Int}{v4:Int}(hr:bF v1 v2=some (v3,v4)):Spec (lim Tryz.prog) 106 [.v (.int .i64 v1),.v (.int .i64 v2)] ⟨[.agg [.v (.int .u64 v3),.v (.int .u64 v4)]],[]⟩:=by
 unfold bF at hr
 have T:=y22
 apply Spec.fn Tryz.func106 rfl
 focus (simp[Tryz.f106]<;>exact rfl)
 focus
  refine wa_ T (g:=?_)
  apply TO.pop1 (wn T) (bM un3 un122 rfl)
  repeat exact sd T
  refine wa_ T (g:=?_)
  apply TO.pop1 (wn T) (bM un3 un122 rfl)
  repeat exact sd T
  refine wa_ T (g:=?_)
  obtain⟨⟨v5,v6⟩,h1,hr⟩:=bs hr
  try dsimp only at hr
  apply TO.cal (wn T) rfl Vh (sN h1) rfl rfl rfl
  repeat exact sd T
  refine wa_ T (g:=?_)
  cases hr
  refine⟨.inr rfl,_,(ry T),?_⟩
  exact wr [] rfl .nil
 rfl
end Go.Rex
namespace Go.Rex
open Go.Proofs
open Go Go.Rex Go.RowKit
set_option maxRecDepth 100000
set_option maxHeartbeats 200000
def y23:=an @ag122 <| an @Nd <| @Ml
theorem gY{v1:Int}{v2:Int}{v3:Int}{v4:Int}{v5:Bool}(hr:cW v1 v2 v3 v4=some (v5)):Spec (lim Tryz.prog) 107 [.agg [.v (.int .u64 v1),.v (.int .u64 v2)],.agg [.v (.int .u64 v3),.v (.int .u64 v4)]] ⟨[.v (.bool v5)],[]⟩:=by
 unfold cW at hr
 have T:=y23
 apply Spec.fn Tryz.func107 rfl
 focus (simp[Tryz.f107]<;>exact rfl)
 focus
  refine wB T (g:=?_)
  rcases ifs hr with⟨h1,hr⟩|⟨h1,hr⟩
  ·have T:=an h1 T
   refine wa_ T (g:=?_)
   cases hr
   refine⟨.inr rfl,_,(ry T),?_⟩
   exact wk_ T [] rfl .nil
  ·have T:=an h1 T
   refine wA T (g:=?_)
   rcases ifs hr with⟨h2,hr⟩|⟨h2,hr⟩
   ·have T:=an h2 T
    refine wA T (g:=?_)
    cases hr
    refine⟨.inr rfl,_,(ry T),?_⟩
    exact wk_ T [] rfl .nil
   ·have T:=an h2 T
    refine wa_ T (g:=?_)
    cases hr
    refine⟨.inr rfl,_,(ry T),?_⟩
    exact wk_ T [] rfl .nil
 rfl
end Go.Rex
namespace Go.Rex
open Go.Proofs
open Go Go.Rex Go.RowKit
set_option maxRecDepth 100000
set_option maxHeartbeats 200000
theorem jU{v1:Int}{v2:Int}{v3:Int}{v4:Bool}(hr:fU v1 v2 v3=some (v4)):Spec (lim Tryz.prog) 93 [.v (.int .i64 v1),.v (.int .i64 v2),.v (.int .i64 v3)] ⟨[.v (.bool v4)],[]⟩:=by
 unfold fU at hr
 have T:=trivial
 apply Spec.fn Tryz.func93 rfl
 focus (simp[Tryz.f93]<;>exact rfl)
 focus
  refine wa_ T (g:=?_)
  obtain⟨v5,h1,hr⟩:=bs hr
  apply TO.cal (wn T) rfl tK (fP h1) rfl rfl rfl
  repeat exact sd T
  refine wa_ T (g:=?_)
  obtain⟨v6,h2,hr⟩:=bs hr
  apply TO.cal (wn T) rfl tK (fP h2) rfl rfl rfl
  repeat exact sd T
  refine wa_ T (g:=?_)
  obtain⟨⟨v7,v8⟩,h3,hr⟩:=bs hr
  try dsimp only at hr
  apply TO.cal (wn T) rfl pB (cR h3) rfl rfl rfl
  repeat exact sd T
  refine wa_ T (g:=?_)
  obtain⟨⟨v9,v10⟩,h4,hr⟩:=bs hr
  try dsimp only at hr
  apply TO.cal (wn T) rfl pB (cR h4) rfl rfl rfl
  repeat exact sd T
  refine wa_ T (g:=?_)
  obtain⟨v11,h5,hr⟩:=bs hr
  apply TO.cal (wn T) rfl Ew (gY h5) rfl rfl rfl
  repeat exact sd T
  refine wa_ T (g:=?_)
  cases hr
  refine⟨.inr rfl,_,(ry T),?_⟩
  exact wr [] rfl .nil
 rfl
end Go.Rex
namespace Go.Rex
open Go.Proofs
open Go Go.Rex Go.RowKit
set_option maxRecDepth 100000
set_option maxHeartbeats 200000
def y24:=an @ag141 <| an @ag3 <| an @cs100 <| an @gS <| an @lX <| an @ok100 <| @so141
theorem mP{v1:Int}{v2:Int}{v3:(List (Int×Int))}{v4:Int}{v5:Bool}(hr:eZ v1 v2 v3 v4=some (v5)):Spec (lim Tryz.prog) 92 [.agg [.v (.int .i64 v1),.v (.int .i64 v2)],.fptr true [.list 2 (v3.map e_ii)] 0,.fptr true [.v (.int .i64 v4)] 0] ⟨[.v (.bool v5)],[]⟩:=by
 unfold eZ at hr
 have T:=an y24 <| @e_ii.eq_1
 apply Spec.fn Tryz.func92 rfl
 focus (simp[Tryz.f92]<;>exact rfl)
 focus
  refine wB T (g:=?_)
  obtain⟨⟨v6,v7⟩,h1,hr⟩:=bs hr
  try dsimp only at hr
  have T:=an (gx e_ii h1) T
  refine wA T (g:=?_)
  obtain⟨v8,h2,hr⟩:=bs hr
  apply TD.cal (wn T) rfl Jr (jU h2) rfl rfl rfl
  repeat exact sd T
  refine wa_ T (g:=?_)
  cases hr
  refine⟨.inr rfl,_,(ry T),?_⟩
  exact wr [] rfl .nil
 rfl
end Go.Rex
namespace Go.Rex
open Go.Proofs
open Go Go.Rex Go.RowKit
set_option maxRecDepth 100000
set_option maxHeartbeats 200000
def y25:=an @ag100 <| an @cs100 <| an @ok100 <| an @so141 <| @lW
theorem gG{v1:(List (Int×Int))}{v2:(List (Int×Int))}{v3:Int}{v4:Int}(hr:aX v1 v2 v3=some (v4)):Spec (lim Tryz.prog) 91 [.list 2 (v1.map e_ii),.func 92 [] [.fptr true [.list 2 (v2.map e_ii)] 0,.fptr true [.v (.int .i64 v3)] 0]] ⟨[.v (.int .i64 v4)],[]⟩:=by
 unfold aX at hr
 have T:=an y25 <| @e_ii.eq_1
 apply Spec.fn Tryz.func91 rfl
 focus (simp[Tryz.f91]<;>exact rfl)
 focus
  refine wc_ T (g:=?_)
  obtain⟨v13,h9,hr⟩:=bs hr
  refine TX.loopE (step:=aS v1 v2 v3) (x:=0) h9 (fun v5=>⟨.list 2 (v1.map e_ii) :: .func 92 [] [.fptr true [.list 2 (v2.map e_ii)] 0,.fptr true [.v (.int .i64 v3)] 0] :: .junk :: .junk :: .junk :: .junk :: .junk :: .v (.int .i64 (v1.length:Int)) :: .v (.int .i64 v5) :: .junk :: .junk :: .junk :: .junk :: .junk :: .junk :: .junk :: .junk :: .junk :: .junk::[],[]⟩) (fun e=>match e with|(.inl v9)=>(.ret,⟨.junk :: .junk :: .junk :: .junk :: .v (.int .i64 v9) :: .junk :: .junk :: .junk :: .junk :: .junk :: .junk :: .junk :: .junk :: .junk :: .junk :: .junk :: .junk :: .junk :: .junk::[],[]⟩)|(.inr _)=>(.exit 0,⟨.junk :: .junk :: .junk :: .junk :: .junk :: .junk :: .junk :: .junk :: .junk :: .junk :: .junk :: .junk :: .junk :: .junk :: .junk :: .junk :: .junk :: .junk :: .junk::[],[]⟩)) ?_ ?_ ?_ ?_
  ·rintro v5 v0 hr
   dsimp only[aS] at hr
   try dsimp only
   refine wa_ T (g:=?_)
   rcases ifs hr with⟨h5,hr⟩|⟨h5,hr⟩
   ·have T:=an h5 T
    refine wa_ T (g:=?_)
    obtain⟨⟨v10,v11⟩,h6,hr⟩:=bs hr
    try dsimp only at hr
    have T:=an (gx e_ii h6) T
    refine wA T (g:=?_)
    obtain⟨v12,h7,hr⟩:=bs hr
    apply TO.cal (wn T) rfl Ye (mP h7) rfl rfl rfl
    repeat exact sd T
    refine wa_ T (g:=?_)
    rcases ifs hr with⟨h8,hr⟩|⟨h8,hr⟩
    ·have T:=an h8 T
     refine wa_ T (g:=?_)
     cases hr
     refine⟨rfl,?_⟩
     exact wk_ T [] rfl .nil
    ·have T:=an h8 T
     refine wa_ T (g:=?_)
     cases hr
     refine⟨rfl,?_⟩
     exact wk_ T [] rfl .nil
   ·have T:=an h5 T
    refine wa_ T (g:=?_)
    cases hr
    refine⟨rfl,?_⟩
    exact wk_ T [] rfl .nil
  ·intro e h;rcases e with _|e<;>cases h
  ·try dsimp only
   rcases v13 with v14|_
   ·try dsimp only at hr
    try dsimp only
    refine wa_ T (g:=?_)
    cases hr
    refine⟨.inr rfl,_,(ry T),?_⟩
    exact wr [] rfl .nil
   ·try dsimp only at hr
    try dsimp only
    refine wa_ T (g:=?_)
    cases hr
    refine⟨.inr rfl,_,(ry T),?_⟩
    exact wr [] rfl .nil
  ·try dsimp only
   exact wr [] rfl .nil
 rfl
end Go.Rex
namespace Go.Rex
open Go.Proofs
open Go Go.Rex Go.RowKit
set_option maxRecDepth 100000
set_option maxHeartbeats 200000
def y26:=an @ag141 <| an @ag24 <| an @ag3 <| an @ag94 <| an @cs100 <| an @cs141 <| an @cs24 <| an @cs31 <| an @cs94 <| an @gS <| an @lX <| an @ok100 <| an @ok141 <| an @ok24 <| an @ok94 <| an @so141 <| an @so149 <| an @zc141 <| an @zc31 <| @zc94
theorem mC{v1:Int}{v2:(List Nat)}{v3:Int}{v4:Int}{v5:Int}(hr:bJ v1 v2 v3=some (v4,v5)):Spec (lim Tryz.prog) 48 [.agg [.v (.int .i64 v1),.list 1 (v2.map e_f)],.v (.int .i64 v3)] ⟨[.tuple [.v (.int .i64 v4),.v (.int .i64 v5)]],[]⟩:=by
 unfold bJ at hr
 have T:=an y26 <| an @e_f.eq_1 <| an @e_i.eq_1 <| @e_ii.eq_1
 apply Spec.fn Tryz.func48 rfl
 focus (simp[Tryz.f48]<;>exact rfl)
 focus
  refine wB T (g:=?_)
  obtain⟨⟨v6,v7⟩,h1,hr⟩:=bs hr
  try dsimp only at hr
  apply TO.cal (wn T) rfl Ku (lU h1) rfl rfl rfl
  repeat exact sd T
  refine wa_ T (g:=?_)
  obtain⟨⟨v8,v9,v10,v11,v12⟩,h2,hr⟩:=bs hr
  try dsimp only at hr
  apply TO.cal (wn T) rfl zT (iQ h2) rfl rfl rfl
  repeat exact sd T
  refine wA T (g:=?_)
  obtain⟨v13,h3,hr⟩:=bs hr
  apply TO.cal (wn T) rfl uV (dZ h3) rfl rfl rfl
  repeat exact sd T
  refine wa_ T (g:=?_)
  apply TO.bm e_i ([v12,v13]:List Int) (wn T) rfl (by simp only[zz,y26,e_f,e_i,e_ii,Nat.reduceAdd,Nat.reduceMul,Nat.reduceLeDiff,Nat.reduceEqDiff,tslice,tparts];exact rfl) rfl
  repeat exact sd T
  refine wa_ T (g:=?_)
  obtain⟨v14,h4,hr⟩:=bs hr
  apply TO.cal (wn T) rfl nR (aW h4) rfl rfl rfl
  repeat exact sd T
  refine wa_ T (g:=?_)
  rcases ifs hr with⟨h5,hr⟩|⟨h5,hr⟩
  ·have T:=an h5 T
   refine wa_ T (g:=?_)
   cases hr
   refine⟨.inr rfl,_,(ry T),?_⟩
   exact wk_ T [] rfl .nil
  ·have T:=an h5 T
   refine wA T (g:=?_)
   obtain⟨v15,h6,hr⟩:=bs hr
   apply TO.cal (wn T) rfl Fl (gB h6) rfl rfl rfl
   repeat exact sd T
   refine wA T (g:=?_)
   obtain⟨⟨v16,v17⟩,h7,hr⟩:=bs hr
   try dsimp only at hr
   have T:=an (gx e_ii h7) T
   refine wA T (g:=?_)
   rcases ifs hr with⟨h8,hr⟩|⟨h8,hr⟩
   ·have T:=an h8 T
    refine wa_ T (g:=?_)
    cases hr
    refine⟨.inr rfl,_,(ry T),?_⟩
    exact wk_ T [] rfl .nil
   ·have T:=an h8 T
    refine wA T (g:=?_)
    apply TO.frz 1 rfl rfl
    repeat exact sd T
    refine wa_ T (g:=?_)
    apply TO.frz 2 rfl rfl
    repeat exact sd T
    refine wa_ T (g:=?_)
    obtain⟨v18,h9,hr⟩:=bs hr
    apply TO.cal (wn T) rfl Kw (gG h9) rfl rfl rfl
    repeat exact sd T
    refine wa_ T (g:=?_)
    cases hr
    refine⟨.inr rfl,_,(ry T),?_⟩
    exact wk_ T [] rfl .nil
 rfl
end Go.Rex
namespace Go.Rex
open Go.Proofs
open Go Go.Rex Go.RowKit
set_option maxRecDepth 100000
set_option maxHeartbeats 200000
theorem rX{v1:Int}{v2:Int}(hr:iS v1=some (v2)):Spec (lim Tryz.prog) 55 [.v (.int .i64 v1)] ⟨[.v (.int .i64 v2)],[]⟩:=by
 unfold iS at hr
 have T:=trivial
 apply Spec.fn Tryz.func55 rfl
 focus (simp[Tryz.f55]<;>exact rfl)
 focus
  refine wa_ T (g:=?_)
  rcases ifs hr with⟨h1,hr⟩|⟨h1,hr⟩
  ·have T:=an h1 T
   refine wa_ T (g:=?_)
   obtain⟨v3,h2,hr⟩:=bs hr
   apply TO.cal (wn T) rfl lV (bC h2) rfl rfl rfl
   repeat exact sd T
   refine wa_ T (g:=?_)
   cases hr
   refine⟨.inr rfl,_,(ry T),?_⟩
   exact wk_ T [] rfl .nil
  ·have T:=an h1 T
   refine wa_ T (g:=?_)
   obtain⟨v4,h3,hr⟩:=bs hr
   apply TO.cal (wn T) rfl lV (bC h3) rfl rfl rfl
   repeat exact sd T
   refine wa_ T (g:=?_)
   cases hr
   refine⟨.inr rfl,_,(ry T),?_⟩
   exact wk_ T [] rfl .nil
 rfl
end Go.Rex
namespace Go.Rex
open Go.Proofs
open Go Go.Rex Go.RowKit
set_option maxRecDepth 100000
set_option maxHeartbeats 200000
def y27:=an @ag100 <| an @ag94 <| an @cs100 <| an @cs94 <| an @ok100 <| an @ok94 <| an @so141 <| @zc100
theorem jM{v1:Int}{v2:(List Nat)}{v3:Int}{v4:Int}{v5:Int}{v6:Int}(hr:eB v1 v2 v3 v4=some (v5,v6)):Spec (lim Tryz.prog) 73 [.agg [.v (.int .i64 v1),.list 1 (v2.map e_f),.v (.int .i64 v3),.v (.int .i64 v4)]] ⟨[.agg [.v (.int .i64 v5),.v (.int .i64 v6)]],[]⟩:=by
 unfold eB at hr
 have T:=an y27 <| an @e_f.eq_1 <| @e_ii.eq_1
 apply Spec.fn Tryz.func73 rfl
 focus (simp[Tryz.f73]<;>exact rfl)
 focus
  refine wB T (g:=?_)
  obtain⟨v7,h1,hr⟩:=bs hr
  apply TO.cal (wn T) rfl Fl (gB h1) rfl rfl rfl
  repeat exact sd T
  refine wa_ T (g:=?_)
  obtain⟨⟨v8,v9⟩,h2,hr⟩:=bs hr
  try dsimp only at hr
  have T:=an (gx e_ii h2) T
  refine wA T (g:=?_)
  cases hr
  refine⟨.inr rfl,_,(ry T),?_⟩
  exact wr [] rfl .nil
 rfl
end Go.Rex
namespace Go.Rex
open Go.Proofs
open Go Go.Rex Go.RowKit
set_option maxRecDepth 100000
set_option maxHeartbeats 200000
def y28:=an @ag141 <| an @ag3 <| an @cs100 <| an @gS <| an @lX <| an @oK <| an @ok100 <| @so141
theorem lQ{v1:Int}{v2:Int}{v3:(List (Int×Int))}{v4:Int}{v5:Bool}(hr:dQ v1 v2 v3 v4=some (v5)):Spec (lim Tryz.prog) 140 [.agg [.v (.int .i64 v1),.v (.int .i64 v2)],.fptr true [.list 2 (v3.map e_ii)] 0,.fptr true [.v (.int .i64 v4)] 0] ⟨[.v (.bool v5)],[]⟩:=by
 unfold dQ at hr
 have T:=an y28 <| @e_ii.eq_1
 apply Spec.fn Tryz.func140 rfl
 focus (simp[Tryz.f140]<;>exact rfl)
 focus
  refine wB T (g:=?_)
  obtain⟨⟨v6,v7⟩,h1,hr⟩:=bs hr
  try dsimp only at hr
  have T:=an (gx e_ii h1) T
  refine wA T (g:=?_)
  obtain⟨v8,h2,hr⟩:=bs hr
  apply TD.cal (wn T) rfl Jr (jU h2) rfl rfl rfl
  repeat exact sd T
  refine wa_ T (g:=?_)
  cases hr
  refine⟨.inr rfl,_,(ry T),?_⟩
  exact wr [] rfl .nil
 rfl
end Go.Rex
namespace Go.Rex
open Go.Proofs
open Go Go.Rex Go.RowKit
set_option maxRecDepth 100000
set_option maxHeartbeats 200000
def y29:=an @ag100 <| an @cs100 <| an @ok100 <| an @so141 <| @lW
theorem gK{v1:(List (Int×Int))}{v2:(List (Int×Int))}{v3:Int}{v4:Int}(hr:aY v1 v2 v3=some (v4)):Spec (lim Tryz.prog) 91 [.list 2 (v1.map e_ii),.func 140 [] [.fptr true [.list 2 (v2.map e_ii)] 0,.fptr true [.v (.int .i64 v3)] 0]] ⟨[.v (.int .i64 v4)],[]⟩:=by
 unfold aY at hr
 have T:=an y29 <| @e_ii.eq_1
 apply Spec.fn Tryz.func91 rfl
 focus (simp[Tryz.f91]<;>exact rfl)
 focus
  refine wc_ T (g:=?_)
  obtain⟨v13,h9,hr⟩:=bs hr
  refine TX.loopE (step:=aG v1 v2 v3) (x:=0) h9 (fun v5=>⟨.list 2 (v1.map e_ii) :: .func 140 [] [.fptr true [.list 2 (v2.map e_ii)] 0,.fptr true [.v (.int .i64 v3)] 0] :: .junk :: .junk :: .junk :: .junk :: .junk :: .v (.int .i64 (v1.length:Int)) :: .v (.int .i64 v5) :: .junk :: .junk :: .junk :: .junk :: .junk :: .junk :: .junk :: .junk :: .junk :: .junk::[],[]⟩) (fun e=>match e with|(.inl v9)=>(.ret,⟨.junk :: .junk :: .junk :: .junk :: .v (.int .i64 v9) :: .junk :: .junk :: .junk :: .junk :: .junk :: .junk :: .junk :: .junk :: .junk :: .junk :: .junk :: .junk :: .junk :: .junk::[],[]⟩)|(.inr _)=>(.exit 0,⟨.junk :: .junk :: .junk :: .junk :: .junk :: .junk :: .junk :: .junk :: .junk :: .junk :: .junk :: .junk :: .junk :: .junk :: .junk :: .junk :: .junk :: .junk :: .junk::[],[]⟩)) ?_ ?_ ?_ ?_
  ·rintro v5 v0 hr
   dsimp only[aG] at hr
   try dsimp only
   refine wa_ T (g:=?_)
   rcases ifs hr with⟨h5,hr⟩|⟨h5,hr⟩
   ·have T:=an h5 T
    refine wa_ T (g:=?_)
    obtain⟨⟨v10,v11⟩,h6,hr⟩:=bs hr
    try dsimp only at hr
    have T:=an (gx e_ii h6) T
    refine wA T (g:=?_)
    obtain⟨v12,h7,hr⟩:=bs hr
    apply TO.cal (wn T) rfl Va (lQ h7) rfl rfl rfl
    repeat exact sd T
    refine wa_ T (g:=?_)
    rcases ifs hr with⟨h8,hr⟩|⟨h8,hr⟩
    ·have T:=an h8 T
     refine wa_ T (g:=?_)
     cases hr
     refine⟨rfl,?_⟩
     exact wk_ T [] rfl .nil
    ·have T:=an h8 T
     refine wa_ T (g:=?_)
     cases hr
     refine⟨rfl,?_⟩
     exact wk_ T [] rfl .nil
   ·have T:=an h5 T
    refine wa_ T (g:=?_)
    cases hr
    refine⟨rfl,?_⟩
    exact wk_ T [] rfl .nil
  ·intro e h;rcases e with _|e<;>cases h
  ·try dsimp only
   rcases v13 with v14|_
   ·try dsimp only at hr
    try dsimp only
    refine wa_ T (g:=?_)
    cases hr
    refine⟨.inr rfl,_,(ry T),?_⟩
    exact wr [] rfl .nil
   ·try dsimp only at hr
    try dsimp only
    refine wa_ T (g:=?_)
    cases hr
    refine⟨.inr rfl,_,(ry T),?_⟩
    exact wr [] rfl .nil
  ·try dsimp only
   exact wr [] rfl .nil
 rfl
end Go.Rex
namespace Go.Rex
open Go.Proofs
open Go Go.Rex Go.RowKit
set_option maxRecDepth 100000
set_option maxHeartbeats 200000
def y30:=an @ag141 <| an @ag3 <| an @cs100 <| an @gS <| an @lX <| an @oK <| an @ok100 <| @so141
theorem lP{v1:Int}{v2:Int}{v3:(List (Int×Int))}{v4:Int}{v5:Bool}(hr:dV v1 v2 v3 v4=some (v5)):Spec (lim Tryz.prog) 141 [.agg [.v (.int .i64 v1),.v (.int .i64 v2)],.fptr true [.list 2 (v3.map e_ii)] 0,.fptr true [.v (.int .i64 v4)] 0] ⟨[.v (.bool v5)],[]⟩:=by
 unfold dV at hr
 have T:=an y30 <| @e_ii.eq_1
 apply Spec.fn Tryz.func141 rfl
 focus (simp[Tryz.f141]<;>exact rfl)
 focus
  refine wB T (g:=?_)
  obtain⟨⟨v6,v7⟩,h1,hr⟩:=bs hr
  try dsimp only at hr
  have T:=an (gx e_ii h1) T
  refine wA T (g:=?_)
  obtain⟨v8,h2,hr⟩:=bs hr
  apply TD.cal (wn T) rfl Jr (jU h2) rfl rfl rfl
  repeat exact sd T
  refine wa_ T (g:=?_)
  cases hr
  refine⟨.inr rfl,_,(ry T),?_⟩
  exact wr [] rfl .nil
 rfl
end Go.Rex
namespace Go.Rex
open Go.Proofs
open Go Go.Rex Go.RowKit
set_option maxRecDepth 100000
set_option maxHeartbeats 200000
def y31:=an @ag100 <| an @cs100 <| an @ok100 <| an @so141 <| @lW
theorem gH{v1:(List (Int×Int))}{v2:(List (Int×Int))}{v3:Int}{v4:Int}(hr:aM v1 v2 v3=some (v4)):Spec (lim Tryz.prog) 91 [.list 2 (v1.map e_ii),.func 141 [] [.fptr true [.list 2 (v2.map e_ii)] 0,.fptr true [.v (.int .i64 v3)] 0]] ⟨[.v (.int .i64 v4)],[]⟩:=by
 unfold aM at hr
 have T:=an y31 <| @e_ii.eq_1
 apply Spec.fn Tryz.func91 rfl
 focus (simp[Tryz.f91]<;>exact rfl)
 focus
  refine wc_ T (g:=?_)
  obtain⟨v13,h9,hr⟩:=bs hr
  refine TX.loopE (step:=aF v1 v2 v3) (x:=0) h9 (fun v5=>⟨.list 2 (v1.map e_ii) :: .func 141 [] [.fptr true [.list 2 (v2.map e_ii)] 0,.fptr true [.v (.int .i64 v3)] 0] :: .junk :: .junk :: .junk :: .junk :: .junk :: .v (.int .i64 (v1.length:Int)) :: .v (.int .i64 v5) :: .junk :: .junk :: .junk :: .junk :: .junk :: .junk :: .junk :: .junk :: .junk :: .junk::[],[]⟩) (fun e=>match e with|(.inl v9)=>(.ret,⟨.junk :: .junk :: .junk :: .junk :: .v (.int .i64 v9) :: .junk :: .junk :: .junk :: .junk :: .junk :: .junk :: .junk :: .junk :: .junk :: .junk :: .junk :: .junk :: .junk :: .junk::[],[]⟩)|(.inr _)=>(.exit 0,⟨.junk :: .junk :: .junk :: .junk :: .junk :: .junk :: .junk :: .junk :: .junk :: .junk :: .junk :: .junk :: .junk :: .junk :: .junk :: .junk :: .junk :: .junk :: .junk::[],[]⟩)) ?_ ?_ ?_ ?_
  ·rintro v5 v0 hr
   dsimp only[aF] at hr
   try dsimp only
   refine wa_ T (g:=?_)
   rcases ifs hr with⟨h5,hr⟩|⟨h5,hr⟩
   ·have T:=an h5 T
    refine wa_ T (g:=?_)
    obtain⟨⟨v10,v11⟩,h6,hr⟩:=bs hr
    try dsimp only at hr
    have T:=an (gx e_ii h6) T
    refine wA T (g:=?_)
    obtain⟨v12,h7,hr⟩:=bs hr
    apply TO.cal (wn T) rfl Ux (lP h7) rfl rfl rfl
    repeat exact sd T
    refine wa_ T (g:=?_)
    rcases ifs hr with⟨h8,hr⟩|⟨h8,hr⟩
    ·have T:=an h8 T
     refine wa_ T (g:=?_)
     cases hr
     refine⟨rfl,?_⟩
     exact wk_ T [] rfl .nil
    ·have T:=an h8 T
     refine wa_ T (g:=?_)
     cases hr
     refine⟨rfl,?_⟩
     exact wk_ T [] rfl .nil
   ·have T:=an h5 T
    refine wa_ T (g:=?_)
    cases hr
    refine⟨rfl,?_⟩
    exact wk_ T [] rfl .nil
  ·intro e h;rcases e with _|e<;>cases h
  ·try dsimp only
   rcases v13 with v14|_
   ·try dsimp only at hr
    try dsimp only
    refine wa_ T (g:=?_)
    cases hr
    refine⟨.inr rfl,_,(ry T),?_⟩
    exact wr [] rfl .nil
   ·try dsimp only at hr
    try dsimp only
    refine wa_ T (g:=?_)
    cases hr
    refine⟨.inr rfl,_,(ry T),?_⟩
    exact wr [] rfl .nil
  ·try dsimp only
   exact wr [] rfl .nil
 rfl
end Go.Rex
namespace Go.Rex
open Go.Proofs
open Go Go.Rex Go.RowKit
set_option maxRecDepth 100000
set_option maxHeartbeats 200000
def y32:=an @ag100 <| an @ag141 <| an @ag94 <| an @cs100 <| an @cs141 <| an @cs94 <| an @ok100 <| an @ok141 <| an @ok94 <| an @st100 <| an @zc100 <| @zc141
theorem gW{v1:Int}{v2:(List Nat)}{v3:Int}{v4:Int}{v5:Int}{v6:Int}{v7:Int}{v8:Int}(hr:cK v1 v2 v3 v4 v5=some (v6,v7,v8)):Spec (lim Tryz.prog) 97 [.agg [.v (.int .i64 v1),.list 1 (v2.map e_f),.v (.int .i64 v3),.v (.int .i64 v4)],.v (.int .i64 v5)] ⟨[.tuple [.agg [.v (.int .i64 v6),.v (.int .i64 v7)],.v (.int .i64 v8)]],[]⟩:=by
 unfold cK at hr
 have T:=an y32 <| @e_f.eq_1
 apply Spec.fn Tryz.func97 rfl
 focus (simp[Tryz.f97]<;>exact rfl)
 focus
  refine wB T (g:=?_)
  obtain⟨v9,h1,hr⟩:=bs hr
  apply TO.cal (wn T) rfl Fl (gB h1) rfl rfl rfl
  repeat exact sd T
  refine wA T (g:=?_)
  apply TO.frz 1 rfl rfl
  repeat exact sd T
  refine wa_ T (g:=?_)
  apply TO.frz 2 rfl rfl
  repeat exact sd T
  refine wa_ T (g:=?_)
  obtain⟨v10,h2,hr⟩:=bs hr
  apply TO.cal (wn T) rfl Kw (gK h2) rfl rfl rfl
  repeat exact sd T
  refine wA T (g:=?_)
  obtain⟨v11,h3,hr⟩:=bs hr
  apply TO.cal (wn T) rfl Kw (gH h3) rfl rfl rfl
  repeat exact sd T
  refine wa_ T (g:=?_)
  rcases ifs hr with⟨h4,hr⟩|⟨h4,hr⟩
  ·have T:=an h4 T
   refine wa_ T (g:=?_)
   cases hr
   refine⟨.inr rfl,_,(ry T),?_⟩
   exact wk_ T [] rfl .nil
  ·have T:=an h4 T
   refine wA T (g:=?_)
   obtain⟨v12,h5,hr⟩:=bs hr
   apply TO.cal (wn T) rfl pR (bS h5) rfl rfl rfl
   repeat exact sd T
   refine wa_ T (g:=?_)
   rcases ifs hr with⟨h6,hr⟩|⟨h6,hr⟩
   ·have T:=an h6 T
    refine wa_ T (g:=?_)
    cases hr
    refine⟨.inr rfl,_,(ry T),?_⟩
    exact wk_ T [] rfl .nil
   ·have T:=an h6 T
    refine wa_ T (g:=?_)
    apply TO.pop1 (wn T) (pC rfl rfl)
    repeat exact sd T
    refine wa_ T (g:=?_)
    obtain⟨⟨v13,v14⟩,h7,hr⟩:=bs hr
    try dsimp only at hr
    apply TO.cal (wn T) rfl kV (bG h7) rfl rfl rfl
    repeat exact sd T
    refine wa_ T (g:=?_)
    cases hr
    refine⟨.inr rfl,_,(ry T),?_⟩
    exact wk_ T [] rfl .nil
 rfl
end Go.Rex
namespace Go.Rex
open Go.Proofs
open Go Go.Rex Go.RowKit
set_option maxRecDepth 100000
set_option maxHeartbeats 200000
def y33:=an @ag100 <| an @ag3 <| an @cs100 <| an @gS <| an @lX <| an @oK <| an @ok100 <| @zc100
theorem mL{v1:Int}{v2:Int}{v3:Int}{v4:Int}{v5:Int}{v6:Int}(hr:gD v1 v2 v3 v4=some (v5,v6)):Spec (lim Tryz.prog) 99 [.agg [.v (.int .i64 v1),.v (.int .i64 v2)],.agg [.v (.int .i64 v3),.v (.int .i64 v4)]] ⟨[.agg [.v (.int .i64 v5),.v (.int .i64 v6)]],[]⟩:=by
 unfold gD at hr
 have T:=y33
 apply Spec.fn Tryz.func99 rfl
 focus (simp[Tryz.f99]<;>exact rfl)
 focus
  refine wB T (g:=?_)
  apply TO.pop1 (wn T) (pC rfl rfl)
  repeat exact sd T
  refine wA T (g:=?_)
  obtain⟨⟨v7,v8⟩,h1,hr⟩:=bs hr
  try dsimp only at hr
  apply TO.cal (wn T) rfl kV (bG h1) rfl rfl rfl
  repeat exact sd T
  refine wa_ T (g:=?_)
  cases hr
  refine⟨.inr rfl,_,(ry T),?_⟩
  exact wr [] rfl .nil
 rfl
end Go.Rex
namespace Go.Rex
open Go.Proofs
open Go Go.Rex Go.RowKit
set_option maxRecDepth 100000
set_option maxHeartbeats 200000
def y34:=an @ag100 <| an @ag3 <| an @cs100 <| an @gS <| an @lX <| an @oK <| an @ok100 <| @zc100
theorem dD{v1:Int}{v2:Int}{v3:Int}{v4:Int}{v5:Int}(hr:aZ v1 v2 v3=some (v4,v5)):Spec (lim Tryz.prog) 100 [.agg [.v (.int .i64 v1),.v (.int .i64 v2)],.v (.int .i64 v3)] ⟨[.agg [.v (.int .i64 v4),.v (.int .i64 v5)]],[]⟩:=by
 unfold aZ at hr
 have T:=y34
 apply Spec.fn Tryz.func100 rfl
 focus (simp[Tryz.f100]<;>exact rfl)
 focus
  refine wB T (g:=?_)
  obtain⟨⟨v6,v7⟩,h1,hr⟩:=bs hr
  try dsimp only at hr
  apply TO.cal (wn T) rfl kV (bG h1) rfl rfl rfl
  repeat exact sd T
  refine wa_ T (g:=?_)
  cases hr
  refine⟨.inr rfl,_,(ry T),?_⟩
  exact wr [] rfl .nil
 rfl
end Go.Rex
namespace Go.Rex
open Go.Proofs
open Go Go.Rex Go.RowKit
set_option maxRecDepth 100000
set_option maxHeartbeats 200000
theorem wU{v1:Int}{v2:Int}{v3:Int}(hr:iW v1 v2=some (v3)):Spec (lim Tryz.prog) 118 [.v (.int .i64 v1),.v (.int .i64 v2)] ⟨[.v (.int .i64 v3)],[]⟩:=by
 unfold iW at hr
 have T:=trivial
 apply Spec.fn Tryz.func118 rfl
 focus (simp[Tryz.f118]<;>exact rfl)
 focus
  refine wa_ T (g:=?_)
  by_cases h1:v2=0
  ·rw[if_pos h1] at hr
   cases hr
  ·rw[if_neg h1] at hr
   have T:=an h1 T
   refine wa_ T (g:=?_)
   cases hr
   refine⟨.inr rfl,_,(ry T),?_⟩
   exact wr [] rfl .nil
 rfl
end Go.Rex
namespace Go.Rex
open Go.Proofs
open Go Go.Rex Go.RowKit
set_option maxRecDepth 100000
set_option maxHeartbeats 200000
theorem sR{v1:Int}{v2:Int}{v3:Int}(hr:jK v1 v2=some (v3)):Spec (lim Tryz.prog) 119 [.v (.int .i64 v1),.v (.int .i64 v2)] ⟨[.v (.int .i64 v3)],[]⟩:=by
 unfold jK at hr
 have T:=trivial
 apply Spec.fn Tryz.func119 rfl
 focus (simp[Tryz.f119]<;>exact rfl)
 focus
  refine wa_ T (g:=?_)
  by_cases h1:v2=0
  ·rw[if_pos h1] at hr
   cases hr
  ·rw[if_neg h1] at hr
   have T:=an h1 T
   refine wa_ T (g:=?_)
   cases hr
   refine⟨.inr rfl,_,(ry T),?_⟩
   exact wr [] rfl .nil
 rfl
end Go.Rex
namespace Go.Rex
open Go.Proofs
open Go Go.Rex Go.RowKit
set_option maxRecDepth 100000
set_option maxHeartbeats 200000
def y35:=an @ag100 <| an @ag3 <| an @cs100 <| an @gS <| an @uL <| an @sG <| an @lX <| an @oK <| an @uW <| an @ok100 <| @zc100
theorem jC{v1:Int}{v2:(List Nat)}{v3:Int}{v4:Int}{v5:Int}{v6:Int}{v7:Int}{v8:Int}(hr:dJ v1 v2 v3 v4 v5 v6=some (v7,v8)):Spec (lim Tryz.prog) 98 [.agg [.v (.int .i64 v1),.list 1 (v2.map e_f),.v (.int .i64 v3),.v (.int .i64 v4)],.agg [.v (.int .i64 v5),.v (.int .i64 v6)]] ⟨[.agg [.v (.int .i64 v7),.v (.int .i64 v8)]],[]⟩:=by
 unfold dJ at hr
 have T:=an y35 <| @e_f.eq_1
 apply Spec.fn Tryz.func98 rfl
 focus (simp[Tryz.f98]<;>exact rfl)
 focus
  refine wB T (g:=?_)
  obtain⟨⟨v9,v10⟩,h1,hr⟩:=bs hr
  try dsimp only at hr
  apply TO.cal (wn T) rfl tP (dD h1) rfl rfl rfl
  repeat exact sd T
  refine wA T (g:=?_)
  obtain⟨v11,h2,hr⟩:=bs hr
  apply TD.cal (wn T) rfl Wl (wU h2) rfl rfl rfl
  repeat exact sd T
  refine wA T (g:=?_)
  obtain⟨v12,h3,hr⟩:=bs hr
  apply TD.cal (wn T) rfl Mh (sR h3) rfl rfl rfl
  repeat exact sd T
  refine wa_ T (g:=?_)
  obtain⟨⟨v13,v14⟩,h4,hr⟩:=bs hr
  try dsimp only at hr
  apply TD.cal (wn T) rfl kV (bG h4) rfl rfl rfl
  repeat exact sd T
  refine wa_ T (g:=?_)
  cases hr
  refine⟨.inr rfl,_,(ry T),?_⟩
  exact wr [] rfl .nil
 rfl
end Go.Rex
namespace Go.Rex
open Go.Proofs
open Go Go.Rex Go.RowKit
set_option maxRecDepth 100000
set_option maxHeartbeats 1000000
def y36:=an @ag100 <| an @ag152 <| an @ag3 <| an @ag30 <| an @ag94 <| an @ar153 <| an @cs100 <| an @cs152 <| an @cs30 <| an @cs94 <| an @gS <| an @Wj <| an @Wb <| an @Vb <| an @lX <| an @ok100 <| an @ok152 <| an @ok30 <| an @ok94 <| an @so153 <| an @st100 <| an @zc100 <| @zc152
theorem qJ{v1:Int}{v2:(List Nat)}{v3:Int}{v4:Int}{v5:Int}{v6:Int}{v7:Int}{v8:Int}(hr:dX v1 v2 v3 v4 v5=some (v6,v7,v8)):Spec (lim Tryz.prog) 56 [.agg [.v (.int .i64 v1),.list 1 (v2.map e_f),.v (.int .i64 v3),.v (.int .i64 v4)],.v (.int .i64 v5)] ⟨[.tuple [.agg [.v (.int .i64 v6),.v (.int .i64 v7)],.v (.int .i64 v8)]],[]⟩:=by
 unfold dX at hr
 have T:=an y36 <| an @e_f.eq_1 <| @e_iii.eq_1
 apply Spec.fn Tryz.func56 rfl
 focus (simp[Tryz.f56]<;>exact rfl)
 focus
  refine wB T (g:=?_)
  obtain⟨⟨v9,v10⟩,h1,hr⟩:=bs hr
  try dsimp only at hr
  apply TO.cal (wn T) rfl Kl (jM h1) rfl rfl rfl
  repeat exact sd T
  refine wa_ T (g:=?_)
  rcases ifs hr with⟨h2,hr⟩|⟨h2,hr⟩
  ·have T:=an h2 T
   refine wa_ T (g:=?_)
   cases hr
   refine⟨.inr rfl,_,(ry T),?_⟩
   exact wk_ T [] rfl .nil
  ·have T:=an h2 T
   refine wa_ T (g:=?_)
   obtain⟨⟨v11,v12,v13⟩,h3,hr⟩:=bs hr
   try dsimp only at hr
   have h3l:=mZ h3
   refine wa_ T (g:=?_)
   have T:=an h3l T
   apply TO.pop1 (wn T) (iaP (xs:=([(0,2,6),(1,5,3),(1,7,2)]:List (Int×Int×Int))) h3 rfl rfl so153 ar153 rfl ok152 cs152)
   repeat exact sd T
   refine wa_ T (g:=?_)
   apply TO.ld (wn T) rfl (Lj (p:=.agg [.v (.int .i64 v11),.v (.int .i64 v12),.v (.int .i64 v13)]) (fo:=0) (f:=e_iii) (xs:=([(0,2,6),(1,5,3),(1,7,2)]:List (Int×Int×Int))) h3 rfl (fun _=>rfl) rfl (by simp only[dW,zz,y36,e_f,e_iii,Nat.reduceAdd,Nat.reduceMul,Nat.reduceLeDiff,Nat.reduceEqDiff,h2,h3l]<;>exact rfl))
   repeat exact sd T
   refine wA T (g:=?_)
   rcases ifs hr with⟨h4,hr⟩|⟨h4,hr⟩
   ·have T:=an h4 T
    refine wA T (g:=?_)
    obtain⟨⟨v14,v15,v16⟩,h5,hr⟩:=bs hr
    try dsimp only at hr
    apply TO.cal (wn T) rfl Jl (gW h5) rfl rfl rfl
    repeat exact sd T
    refine wa_ T (g:=?_)
    rcases ifs hr with⟨h6,hr⟩|⟨h6,hr⟩
    ·have T:=an h6 T
     refine wa_ T (g:=?_)
     cases hr
     refine⟨.inr rfl,_,(ry T),?_⟩
     exact wk_ T [] rfl .nil
    ·have T:=an h6 T
     refine wA T (g:=?_)
     obtain⟨⟨v17,v18,v19⟩,h7,hr⟩:=bs hr
     try dsimp only at hr
     apply TO.cal (wn T) rfl Jl (gW h7) rfl rfl rfl
     repeat exact sd T
     refine wa_ T (g:=?_)
     rcases ifs hr with⟨h8,hr⟩|⟨h8,hr⟩
     ·have T:=an h8 T
      refine wa_ T (g:=?_)
      cases hr
      refine⟨.inr rfl,_,(ry T),?_⟩
      exact wk_ T [] rfl .nil
     ·have T:=an h8 T
      refine wA T (g:=?_)
      obtain⟨⟨v20,v21⟩,h9,hr⟩:=bs hr
      try dsimp only at hr
      apply TD.cal (wn T) rfl Tl (mL h9) rfl rfl rfl
      repeat exact sd T
      refine wA T (g:=?_)
      obtain⟨⟨v22,v23⟩,h10,hr⟩:=bs hr
      try dsimp only at hr
      apply TD.cal (wn T) rfl tP (dD h10) rfl rfl rfl
      repeat exact sd T
      refine wa_ T (g:=?_)
      obtain⟨⟨v24,v25⟩,h11,hr⟩:=bs hr
      try dsimp only at hr
      apply TD.cal (wn T) rfl Ll (jC h11) rfl rfl rfl
      repeat exact sd T
      refine wa_ T (g:=?_)
      cases hr
      refine⟨.inr rfl,_,(ry T),?_⟩
      exact wk_ T [] rfl .nil
   ·have T:=an h4 T
    refine wA T (g:=?_)
    obtain⟨⟨v26,v27,v28⟩,h12,hr⟩:=bs hr
    try dsimp only at hr
    apply TO.cal (wn T) rfl Jl (gW h12) rfl rfl rfl
    repeat exact sd T
    refine wa_ T (g:=?_)
    rcases ifs hr with⟨h13,hr⟩|⟨h13,hr⟩
    ·have T:=an h13 T
     refine wa_ T (g:=?_)
     cases hr
     refine⟨.inr rfl,_,(ry T),?_⟩
     exact wk_ T [] rfl .nil
    ·have T:=an h13 T
     refine wA T (g:=?_)
     obtain⟨⟨v29,v30⟩,h14,hr⟩:=bs hr
     try dsimp only at hr
     apply TD.cal (wn T) rfl Tl (mL h14) rfl rfl rfl
     repeat exact sd T
     refine wA T (g:=?_)
     obtain⟨⟨v31,v32⟩,h15,hr⟩:=bs hr
     try dsimp only at hr
     apply TD.cal (wn T) rfl tP (dD h15) rfl rfl rfl
     repeat exact sd T
     refine wa_ T (g:=?_)
     obtain⟨⟨v33,v34⟩,h16,hr⟩:=bs hr
     try dsimp only at hr
     apply TD.cal (wn T) rfl Ll (jC h16) rfl rfl rfl
     repeat exact sd T
     refine wa_ T (g:=?_)
     cases hr
     refine⟨.inr rfl,_,(ry T),?_⟩
     exact wk_ T [] rfl .nil
 rfl
end Go.Rex
namespace Go.Rex
open Go.Proofs
open Go Go.Rex Go.RowKit
set_option maxRecDepth 100000
set_option maxHeartbeats 200000
def y37:=an @ag26 <| an @ag30 <| an @ag94 <| an @cs100 <| an @cs26 <| an @cs30 <| an @cs31 <| an @cs94 <| an @gS <| an @ok100 <| an @ok26 <| an @ok30 <| an @ok94 <| an @so149 <| an @st30 <| an @zc100 <| an @zc30 <| an @zc31 <| @zc94
theorem qH{v1:Int}{v2:(List Nat)}{v3:Int}{v4:Int}{v5:Int}{v6:Int}{v7:Int}{v8:Int}(hr:cM v1 v2 v3 v4 v5=some (v6,v7,v8)):Spec (lim Tryz.prog) 16 [.agg [.v (.int .i64 v1),.list 1 (v2.map e_f),.v (.int .i64 v3),.v (.int .i64 v4)],.v (.int .i64 v5)] ⟨[.tuple [.agg [.v (.int .i64 v6),.v (.int .i64 v7)],.v (.int .i64 v8)]],[]⟩:=by
 unfold cM at hr
 have T:=an y37 <| an @e_f.eq_1 <| @e_i.eq_1
 apply Spec.fn Tryz.func16 rfl
 focus (simp[Tryz.f16]<;>exact rfl)
 focus
  refine wB T (g:=?_)
  obtain⟨⟨v9,v10,v11,v12,v13⟩,h1,hr⟩:=bs hr
  try dsimp only at hr
  apply TO.cal (wn T) rfl zT (iQ h1) rfl rfl rfl
  repeat exact sd T
  refine wa_ T (g:=?_)
  obtain⟨v14,h2,hr⟩:=bs hr
  apply TO.cal (wn T) rfl Yo (rX h2) rfl rfl rfl
  repeat exact sd T
  refine wa_ T (g:=?_)
  apply TO.bm e_i ([v13,v14]:List Int) (wn T) rfl (by simp only[zz,y37,e_f,e_i,Nat.reduceAdd,Nat.reduceMul,Nat.reduceLeDiff,Nat.reduceEqDiff,tslice,tparts];exact rfl) rfl
  repeat exact sd T
  refine wa_ T (g:=?_)
  obtain⟨v15,h3,hr⟩:=bs hr
  apply TO.cal (wn T) rfl nR (aW h3) rfl rfl rfl
  repeat exact sd T
  refine wa_ T (g:=?_)
  rcases ifs hr with⟨h4,hr⟩|⟨h4,hr⟩
  ·have T:=an h4 T
   refine wa_ T (g:=?_)
   cases hr
   refine⟨.inr rfl,_,(ry T),?_⟩
   exact wk_ T [] rfl .nil
  ·have T:=an h4 T
   refine wA T (g:=?_)
   obtain⟨⟨v16,v17,v18⟩,h5,hr⟩:=bs hr
   try dsimp only at hr
   apply TO.cal (wn T) rfl Yy (qJ h5) rfl rfl rfl
   repeat exact sd T
   refine wA T (g:=?_)
   cases hr
   refine⟨.inr rfl,_,(ry T),?_⟩
   exact wk_ T [] rfl .nil
 rfl
end Go.Rex
namespace Go.Rex
open Go.Proofs
open Go Go.Rex Go.RowKit
set_option maxRecDepth 100000
set_option maxHeartbeats 200000
def y38:=an @ag24 <| an @ag30 <| an @cs24 <| an @cs30 <| an @ok24 <| an @ok30 <| @zc30
theorem pK{v1:Int}{v2:(List Nat)}{v3:Int}{v4:Int}{v5:Int}{v6:Int}(hr:gA v1 v2 v3=some (v4,v5,v6)):Spec (lim Tryz.prog) 14 [.agg [.v (.int .i64 v1),.list 1 (v2.map e_f)],.v (.int .i64 v3)] ⟨[.tuple [.agg [.v (.int .i64 v4),.v (.int .i64 v5)],.v (.int .i64 v6)]],[]⟩:=by
 unfold gA at hr
 have T:=an y38 <| @e_f.eq_1
 apply Spec.fn Tryz.func14 rfl
 focus (simp[Tryz.f14]<;>exact rfl)
 focus
  refine wB T (g:=?_)
  obtain⟨⟨v7,v8⟩,h1,hr⟩:=bs hr
  try dsimp only at hr
  apply TO.cal (wn T) rfl Ku (lU h1) rfl rfl rfl
  repeat exact sd T
  refine wa_ T (g:=?_)
  obtain⟨⟨v9,v10,v11⟩,h2,hr⟩:=bs hr
  try dsimp only at hr
  apply TO.cal (wn T) rfl Yk (qH h2) rfl rfl rfl
  repeat exact sd T
  refine wa_ T (g:=?_)
  cases hr
  refine⟨.inr rfl,_,(ry T),?_⟩
  exact wr [] rfl .nil
 rfl
end Go.Rex
namespace Go.Rex
open Go.Proofs
open Go Go.Rex Go.RowKit
set_option maxRecDepth 100000
set_option maxHeartbeats 200000
def y39:=an @ag24 <| an @ag26 <| an @cs24 <| an @cs26 <| an @sG <| an @ok24 <| an @ok26 <| @zc26
theorem kX{v1:Int}{v2:(List Nat)}{v3:Int}{v4:Int}{v5:Int}{v6:(List Nat)}{v7:Int}{v8:Int}(hr:eA v1 v2 v3 v4=some (v5,v6,v7,v8)):Spec (lim Tryz.prog) 17 [.agg [.v (.int .i64 v1),.list 1 (v2.map e_f),.v (.int .i64 v3),.v (.int .i64 v4)]] ⟨[.agg [.v (.int .i64 v5),.lsl 0 0 v6.length,.v (.int .i64 v7),.v (.int .i64 v8)]],[.rows 1 (v6.map e_f)]⟩:=by
 unfold eA at hr
 have T:=an y39 <| @e_f.eq_1
 apply Spec.fn Tryz.func17 rfl
 focus (simp[Tryz.f17]<;>exact rfl)
 focus
  repeat (first|(with_reducible first|refine mv ?_|refine m12 rfl ?_|refine TO.nil ?_)|((with_reducible first|apply TO.bx (dst:=some 1)|apply TO.al|apply TO.fa|apply TO.ld);(repeat (focus (show _=_;first|exact k1 rfl|exact k2 rfl|(simp only[zz,y39,e_f,Nat.reduceAdd,Nat.reduceMul,Nat.reduceLeDiff,Nat.reduceEqDiff,bB,tload,fB,dW,List.getElem?_map]<;>exact rfl)|exact rfl)));(with_reducible apply TO.here))|((with_reducible apply TX.region);(focus (simp only[zl]<;>exact rfl));(focus rfl);(try dsimp only))|fail)
  obtain⟨⟨v9,v10⟩,h1,hr⟩:=bs hr
  try dsimp only at hr
  apply TO.cal (wn T) rfl sU (cA h1) rfl rfl rfl
  repeat exact sd T
  refine wA T (g:=?_)
  cases hr
  refine⟨.inr rfl,_,(ry T),?_⟩
  exact wr [some 2] rfl (.rows .nil rfl rfl)
 rfl
end Go.Rex
namespace Go.Rex
open Go.Proofs
open Go Go.Rex Go.RowKit
set_option maxRecDepth 100000
set_option maxHeartbeats 200000
theorem mK{v1:Int}{v2:Int}(hr:eM v1=some (v2)):Spec (lim Tryz.prog) 67 [.v (.int .i64 v1)] ⟨[.v (.int .i64 v2)],[]⟩:=by
 unfold eM at hr
 have T:=trivial
 apply Spec.fn Tryz.func67 rfl
 focus (simp[Tryz.f67]<;>exact rfl)
 focus
  refine wa_ T (g:=?_)
  obtain⟨v3,h1,hr⟩:=bs hr
  apply TO.cal (wn T) rfl uV (dZ h1) rfl rfl rfl
  repeat exact sd T
  refine wa_ T (g:=?_)
  cases hr
  refine⟨.inr rfl,_,(ry T),?_⟩
  exact wr [] rfl .nil
 rfl
end Go.Rex
namespace Go.Rex
open Go.Proofs
open Go Go.Rex Go.RowKit
set_option maxRecDepth 100000
set_option maxHeartbeats 200000
theorem nE{v1:Int}{v2:Int}{v3:Int}(hr:fT v1 v2=some (v3)):Spec (lim Tryz.prog) 112 [.v (.int .i64 v1),.v (.int .i64 v2)] ⟨[.v (.int .i64 v3)],[]⟩:=by
 unfold fT at hr
 have T:=trivial
 apply Spec.fn Tryz.func112 rfl
 focus (simp[Tryz.f112]<;>exact rfl)
 focus
  refine wa_ T (g:=?_)
  obtain⟨v4,h1,hr⟩:=bs hr
  apply TO.cal (wn T) rfl Mh (sR h1) rfl rfl rfl
  repeat exact sd T
  refine wa_ T (g:=?_)
  cases hr
  refine⟨.inr rfl,_,(ry T),?_⟩
  exact wr [] rfl .nil
 rfl
end Go.Rex
namespace Go.Rex
open Go.Proofs
open Go Go.Rex Go.RowKit
set_option maxRecDepth 100000
set_option maxHeartbeats 200000
def y40:=an @ag3 <| an @ag94 <| an @cs94 <| an @uL <| an @sG <| an @uW <| @ok94
theorem lM{v1:Int}{v2:(List Nat)}{v3:Int}{v4:Int}{v5:Int}{v6:Int}(hr:cL v1 v2 v3 v4 v5=some (v6)):Spec (lim Tryz.prog) 117 [.agg [.v (.int .i64 v1),.list 1 (v2.map e_f),.v (.int .i64 v3),.v (.int .i64 v4)],.v (.int .i64 v5)] ⟨[.v (.int .i64 v6)],[]⟩:=by
 unfold cL at hr
 have T:=an y40 <| @e_f.eq_1
 apply Spec.fn Tryz.func117 rfl
 focus (simp[Tryz.f117]<;>exact rfl)
 focus
  refine wB T (g:=?_)
  obtain⟨v7,h1,hr⟩:=bs hr
  apply TD.cal (wn T) rfl Ma (nE h1) rfl rfl rfl
  repeat exact sd T
  refine wA T (g:=?_)
  obtain⟨v8,h2,hr⟩:=bs hr
  apply TD.cal (wn T) rfl pR (bS h2) rfl rfl rfl
  repeat exact sd T
  refine wa_ T (g:=?_)
  apply TD.pop1 (wn T) (Mk rfl rfl)
  repeat exact sd T
  refine wa_ T (g:=?_)
  cases hr
  refine⟨.inr rfl,_,(ry T),?_⟩
  exact wr [] rfl .nil
 rfl
end Go.Rex
namespace Go.Rex
open Go.Proofs
open Go Go.Rex Go.RowKit
set_option maxRecDepth 100000
set_option maxHeartbeats 200000
def y41:=an @ag100 <| an @ag94 <| an @cs100 <| an @cs94 <| an @ok100 <| an @ok94 <| @zc100
theorem pY{v1:Int}{v2:(List Nat)}{v3:Int}{v4:Int}{v5:Int}{v6:Int}{v7:Int}{v8:Int}(hr:dF v1 v2 v3 v4 v5 v6=some (v7,v8)):Spec (lim Tryz.prog) 116 [.agg [.v (.int .i64 v1),.list 1 (v2.map e_f),.v (.int .i64 v3),.v (.int .i64 v4)],.v (.int .i64 v5),.v (.int .i64 v6)] ⟨[.agg [.v (.int .i64 v7),.v (.int .i64 v8)]],[]⟩:=by
 unfold dF at hr
 have T:=an y41 <| @e_f.eq_1
 apply Spec.fn Tryz.func116 rfl
 focus (simp[Tryz.f116]<;>exact rfl)
 focus
  refine wb_ T (g:=?_)
  obtain⟨⟨v22,v23⟩,h7,hr⟩:=bs hr
  try dsimp only at hr
  refine TX.loopE (step:=eR v1 v2 v3 v4 v6) (x:=(0,0,v5)) h7 (fun (v9,v10,v11)=>⟨.junk :: .junk :: .v (.int .i64 v6) :: .fptr true [.v (.int .i64 v1),.list 1 (v2.map e_f),.v (.int .i64 v3),.v (.int .i64 v4)] 0 :: .junk :: .junk :: .lptr 0 0 0 :: .lptr 1 0 0 :: .v (.int .i64 v11) :: .junk :: .junk :: .junk :: .junk :: .junk :: .junk :: .junk :: .junk :: .junk :: .junk :: .junk :: .junk::[],[.var [.v (.int .i64 0),.v (.int .i64 0)],.var [.v (.int .i64 v9),.v (.int .i64 v10)]]⟩) (fun (v16,v17)=>(.exit 0,⟨.junk :: .junk :: .junk :: .junk :: .junk :: .junk :: .lptr 0 0 0 :: .lptr 1 0 0 :: .junk :: .junk :: .junk :: .junk :: .junk :: .junk :: .junk :: .junk :: .junk :: .junk :: .junk :: .junk :: .junk::[],[.var [.v (.int .i64 0),.v (.int .i64 0)],.var [.v (.int .i64 v16),.v (.int .i64 v17)]]⟩)) ?_ ?_ ?_ ?_
  ·rintro⟨v9,v10,v11⟩ v0 hr
   dsimp only[eR] at hr
   try dsimp only
   refine wa_ T (g:=?_)
   rcases ifs hr with⟨h4,hr⟩|⟨h4,hr⟩
   ·have T:=an h4 T
    refine wA T (g:=?_)
    obtain⟨⟨v18,v19⟩,h5,hr⟩:=bs hr
    try dsimp only at hr
    apply TD.cal (wn T) rfl Dv (iK h5) rfl rfl rfl
    repeat exact sd T
    refine wa_ T (g:=?_)
    obtain⟨⟨v20,v21⟩,h6,hr⟩:=bs hr
    try dsimp only at hr
    apply TD.cal (wn T) rfl Ft (jN h6) rfl rfl rfl
    repeat exact sd T
    refine wa_ T (g:=?_)
    cases hr
    refine⟨rfl,?_⟩
    exact wk_ T [some 0,some 1] rfl (rv (rv .nil rfl) rfl)
   ·have T:=an h4 T
    refine wa_ T (g:=?_)
    cases hr
    refine⟨rfl,?_⟩
    exact wk_ T [some 0,some 1] rfl (rv (rv .nil rfl) rfl)
  ·intro e h;cases h
  ·try dsimp only
   refine wA T (g:=?_)
   cases hr
   refine⟨.inr rfl,_,(ry T),?_⟩
   exact wr [] rfl .nil
  ·try dsimp only
   exact wr [some 0,some 1] rfl (rv (rv .nil rfl) rfl)
 rfl
end Go.Rex
namespace Go.Rex
open Go.Proofs
open Go Go.Rex Go.RowKit
set_option maxRecDepth 100000
set_option maxHeartbeats 200000
def y42:=an @ag100 <| an @ag94 <| an @cs100 <| an @cs94 <| an @ok100 <| an @ok94 <| @zc100
theorem lN{v1:Int}{v2:(List Nat)}{v3:Int}{v4:Int}{v5:Int}{v6:Int}{v7:Int}(hr:cZ v1 v2 v3 v4 v5=some (v6,v7)):Spec (lim Tryz.prog) 72 [.agg [.v (.int .i64 v1),.list 1 (v2.map e_f),.v (.int .i64 v3),.v (.int .i64 v4)],.v (.int .i64 v5)] ⟨[.agg [.v (.int .i64 v6),.v (.int .i64 v7)]],[]⟩:=by
 unfold cZ at hr
 have T:=an y42 <| @e_f.eq_1
 apply Spec.fn Tryz.func72 rfl
 focus (simp[Tryz.f72]<;>exact rfl)
 focus
  refine wB T (g:=?_)
  obtain⟨v8,h1,hr⟩:=bs hr
  apply TD.cal (wn T) rfl Nh (lM h1) rfl rfl rfl
  repeat exact sd T
  refine wa_ T (g:=?_)
  obtain⟨⟨v9,v10⟩,h2,hr⟩:=bs hr
  try dsimp only at hr
  apply TD.cal (wn T) rfl Uq (pY h2) rfl rfl rfl
  repeat exact sd T
  refine wa_ T (g:=?_)
  cases hr
  refine⟨.inr rfl,_,(ry T),?_⟩
  exact wr [] rfl .nil
 rfl
end Go.Rex
namespace Go.Rex
open Go.Proofs
open Go Go.Rex Go.RowKit
set_option maxRecDepth 100000
set_option maxHeartbeats 200000
def y43:=an @ag100 <| an @ag94 <| an @cs100 <| an @cs94 <| an @ok100 <| an @ok94 <| an @so141 <| @zc100
theorem rP{v1:Int}{v2:(List Nat)}{v3:Int}{v4:Int}{v5:Int}{v6:Int}{v7:Int}(hr:fQ v1 v2 v3 v4 v5=some (v6,v7)):Spec (lim Tryz.prog) 111 [.agg [.v (.int .i64 v1),.list 1 (v2.map e_f),.v (.int .i64 v3),.v (.int .i64 v4)],.v (.int .i64 v5)] ⟨[.agg [.v (.int .i64 v6),.v (.int .i64 v7)]],[]⟩:=by
 unfold fQ at hr
 have T:=an y43 <| an @e_f.eq_1 <| @e_ii.eq_1
 apply Spec.fn Tryz.func111 rfl
 focus (simp[Tryz.f111]<;>exact rfl)
 focus
  refine wB T (g:=?_)
  obtain⟨v8,h1,hr⟩:=bs hr
  apply TD.cal (wn T) rfl Fl (gB h1) rfl rfl rfl
  repeat exact sd T
  refine wA T (g:=?_)
  obtain⟨v9,h2,hr⟩:=bs hr
  apply TD.cal (wn T) rfl Nh (lM h2) rfl rfl rfl
  repeat exact sd T
  refine wa_ T (g:=?_)
  obtain⟨⟨v10,v11⟩,h3,hr⟩:=bs hr
  try dsimp only at hr
  have T:=an (gx e_ii h3) T
  refine wA T (g:=?_)
  cases hr
  refine⟨.inr rfl,_,(ry T),?_⟩
  exact wr [] rfl .nil
 rfl
end Go.Rex
namespace Go.Rex
open Go.Proofs
open Go Go.Rex Go.RowKit
set_option maxRecDepth 100000
set_option maxHeartbeats 200000
theorem uK{v1:Int}{v2:Int}{v3:Int}(hr:kQ v1 v2=some (v3)):Spec (lim Tryz.prog) 142 [.v (.int .i64 v1),.v (.int .i64 v2)] ⟨[.v (.int .i64 v3)],[]⟩:=by
 unfold kQ at hr
 have T:=trivial
 apply Spec.fn Tryz.func142 rfl
 focus (simp[Tryz.f142]<;>exact rfl)
 focus
  refine wa_ T (g:=?_)
  by_cases h1:v2=0
  ·rw[if_pos h1] at hr
   cases hr
  ·rw[if_neg h1] at hr
   have T:=an h1 T
   refine wa_ T (g:=?_)
   cases hr
   refine⟨.inr rfl,_,(ry T),?_⟩
   exact wr [] rfl .nil
 rfl
end Go.Rex
namespace Go.Rex
open Go.Proofs
open Go Go.Rex Go.RowKit
set_option maxRecDepth 100000
set_option maxHeartbeats 1000000
def y44:=an @ag100 <| an @ag3 <| an @ar186 <| an @cs100 <| an @cs3 <| an @gS <| an @oK <| an @ok100 <| an @ok3 <| an @so186 <| @zc100
theorem nU{v1:Int}{v2:Int}{v3:Int}{v4:Int}(hr:gE v1=some (v2,v3,v4)):Spec (lim Tryz.prog) 105 [.v (.int .i64 v1)] ⟨[.tuple [.agg [.v (.int .i64 v2),.v (.int .i64 v3)],.v (.int .i64 v4)]],[]⟩:=by
 unfold gE at hr
 have T:=an y44 <| @e_i.eq_1
 apply Spec.fn Tryz.func105 rfl
 focus (simp[Tryz.f105]<;>exact rfl)
 focus
  refine wa_ T (g:=?_)
  obtain⟨v5,h1,hr⟩:=bs hr
  apply TO.cal (wn T) rfl Vv (uK h1) rfl rfl rfl
  repeat exact sd T
  refine wa_ T (g:=?_)
  obtain⟨v6,h2,hr⟩:=bs hr
  have h2l:=mZ h2
  refine wa_ T (g:=?_)
  have T:=an h2l T
  apply TD.pop1 (wn T) (iaP (xs:=([1000000000,1258925411,1584893192,1995262314,2511886431,3162277660,3981071705,5011872336,6309573444,7943282347]:List Int)) h2 rfl rfl so186 ar186 rfl ok3 cs3)
  repeat exact sd T
  refine wa_ T (g:=?_)
  apply TD.ld (wn T) rfl (Lj (p:=.v (.int .i64 v6)) (fo:=0) (f:=e_i) (xs:=([1000000000,1258925411,1584893192,1995262314,2511886431,3162277660,3981071705,5011872336,6309573444,7943282347]:List Int)) h2 rfl (fun _=>rfl) rfl (by simp only[dW,zz,y44,e_i,Nat.reduceAdd,Nat.reduceMul,Nat.reduceLeDiff,Nat.reduceEqDiff,h2l]<;>exact rfl))
  repeat exact sd T
  refine wa_ T (g:=?_)
  apply TD.pop1 (wn T) (iaP (xs:=([1000000000,1258925411,1584893192,1995262314,2511886431,3162277660,3981071705,5011872336,6309573444,7943282347]:List Int)) h2 rfl rfl so186 ar186 rfl ok3 cs3)
  repeat exact sd T
  refine wa_ T (g:=?_)
  apply TD.ld (wn T) rfl (Lj (p:=.v (.int .i64 v6)) (fo:=0) (f:=e_i) (xs:=([1000000000,1258925411,1584893192,1995262314,2511886431,3162277660,3981071705,5011872336,6309573444,7943282347]:List Int)) h2 rfl (fun _=>rfl) rfl (by simp only[dW,zz,y44,e_i,Nat.reduceAdd,Nat.reduceMul,Nat.reduceLeDiff,Nat.reduceEqDiff,h2l]<;>exact rfl))
  repeat exact sd T
  refine wa_ T (g:=?_)
  obtain⟨⟨v7,v8⟩,h3,hr⟩:=bs hr
  try dsimp only at hr
  apply TD.cal (wn T) rfl kV (bG h3) rfl rfl rfl
  repeat exact sd T
  refine wa_ T (g:=?_)
  rcases ifs hr with⟨h4,hr⟩|⟨h4,hr⟩
  ·have T:=an h4 T
   refine wA T (g:=?_)
   apply TD.pop1 (wn T) (pC rfl rfl)
   repeat exact sd T
   refine wa_ T (g:=?_)
   obtain⟨v9,h5,hr⟩:=bs hr
   apply TD.cal (wn T) rfl tK (fP h5) rfl rfl rfl
   repeat exact sd T
   refine wa_ T (g:=?_)
   obtain⟨⟨v10,v11⟩,h6,hr⟩:=bs hr
   try dsimp only at hr
   apply TD.cal (wn T) rfl tP (dD h6) rfl rfl rfl
   repeat exact sd T
   refine wa_ T (g:=?_)
   apply TD.pop1 (wn T) (Em rfl)
   repeat exact sd T
   refine wa_ T (g:=?_)
   apply TD.pop1 (wn T) (pC rfl rfl)
   repeat exact sd T
   refine wa_ T (g:=?_)
   obtain⟨v12,h7,hr⟩:=bs hr
   apply TD.cal (wn T) rfl tK (fP h7) rfl rfl rfl
   repeat exact sd T
   refine wa_ T (g:=?_)
   cases hr
   refine⟨.inr rfl,_,(ry T),?_⟩
   exact wk_ T [] rfl .nil
  ·have T:=an h4 T
   refine wA T (g:=?_)
   apply TD.pop1 (wn T) (pC rfl rfl)
   repeat exact sd T
   refine wa_ T (g:=?_)
   obtain⟨v13,h8,hr⟩:=bs hr
   apply TD.cal (wn T) rfl tK (fP h8) rfl rfl rfl
   repeat exact sd T
   refine wa_ T (g:=?_)
   obtain⟨⟨v14,v15⟩,h9,hr⟩:=bs hr
   try dsimp only at hr
   apply TD.cal (wn T) rfl tP (dD h9) rfl rfl rfl
   repeat exact sd T
   refine wa_ T (g:=?_)
   apply TD.pop1 (wn T) (Em rfl)
   repeat exact sd T
   refine wa_ T (g:=?_)
   apply TD.pop1 (wn T) (pC rfl rfl)
   repeat exact sd T
   refine wa_ T (g:=?_)
   obtain⟨v16,h10,hr⟩:=bs hr
   apply TD.cal (wn T) rfl tK (fP h10) rfl rfl rfl
   repeat exact sd T
   refine wa_ T (g:=?_)
   cases hr
   refine⟨.inr rfl,_,(ry T),?_⟩
   exact wk_ T [] rfl .nil
 rfl
end Go.Rex
namespace Go.Rex
open Go.Proofs
open Go Go.Rex Go.RowKit
set_option maxRecDepth 100000
set_option maxHeartbeats 200000
def y45:=an @ag3 <| an @cs100 <| an @gS <| an @Ly <| an @My <| an @oK <| an @ok100 <| @zc100
theorem jD{v1:Int}{v2:Int}{v3:Int}{v4:Bool}(hr:cT v1 v2 v3=some (v4)):Spec (lim Tryz.prog) 64 [.agg [.v (.int .i64 v1),.v (.int .i64 v2)],.v (.int .i64 v3)] ⟨[.v (.bool v4)],[]⟩:=by
 unfold cT at hr
 have T:=y45
 apply Spec.fn Tryz.func64 rfl
 focus (simp[Tryz.f64]<;>exact rfl)
 focus
  refine wb_ T (g:=?_)
  obtain⟨⟨v5,v6,v7⟩,h1,hr⟩:=bs hr
  try dsimp only at hr
  apply TO.cal (wn T) rfl Mi (nU h1) rfl rfl rfl
  repeat exact sd T
  refine wA T (g:=?_)
  obtain⟨⟨v8,v9⟩,h2,hr⟩:=bs hr
  try dsimp only at hr
  apply TD.cal (wn T) rfl pB (cR h2) rfl rfl rfl
  repeat exact sd T
  refine wA T (g:=?_)
  obtain⟨⟨v10,v11⟩,h3,hr⟩:=bs hr
  try dsimp only at hr
  apply TD.cal (wn T) rfl pB (cR h3) rfl rfl rfl
  repeat exact sd T
  refine wa_ T (g:=?_)
  obtain⟨v12,h4,hr⟩:=bs hr
  apply TD.cal (wn T) rfl Ew (gY h4) rfl rfl rfl
  repeat exact sd T
  refine wa_ T (g:=?_)
  cases hr
  refine⟨.inr rfl,_,(ry T),?_⟩
  exact wr [] rfl .nil
 rfl
end Go.Rex
namespace Go.Rex
open Go.Proofs
open Go Go.Rex Go.RowKit
set_option maxRecDepth 100000
set_option maxHeartbeats 200000
def y46:=an @ag3 <| an @cs100 <| an @gS <| an @Ly <| an @My <| an @lX <| an @ok100 <| @zc100
theorem jF{v1:Int}{v2:Int}{v3:Int}{v4:Bool}(hr:bK v1 v2 v3=some (v4)):Spec (lim Tryz.prog) 65 [.agg [.v (.int .i64 v1),.v (.int .i64 v2)],.v (.int .i64 v3)] ⟨[.v (.bool v4)],[]⟩:=by
 unfold bK at hr
 have T:=y46
 apply Spec.fn Tryz.func65 rfl
 focus (simp[Tryz.f65]<;>exact rfl)
 focus
  refine wb_ T (g:=?_)
  obtain⟨⟨v5,v6,v7⟩,h1,hr⟩:=bs hr
  try dsimp only at hr
  apply TO.cal (wn T) rfl Mi (nU h1) rfl rfl rfl
  repeat exact sd T
  refine wA T (g:=?_)
  obtain⟨⟨v8,v9⟩,h2,hr⟩:=bs hr
  try dsimp only at hr
  apply TD.cal (wn T) rfl pB (cR h2) rfl rfl rfl
  repeat exact sd T
  refine wA T (g:=?_)
  obtain⟨⟨v10,v11⟩,h3,hr⟩:=bs hr
  try dsimp only at hr
  apply TD.cal (wn T) rfl pB (cR h3) rfl rfl rfl
  repeat exact sd T
  refine wa_ T (g:=?_)
  obtain⟨v12,h4,hr⟩:=bs hr
  apply TD.cal (wn T) rfl Ew (gY h4) rfl rfl rfl
  repeat exact sd T
  refine wa_ T (g:=?_)
  cases hr
  refine⟨.inr rfl,_,(ry T),?_⟩
  exact wr [] rfl .nil
 rfl
end Go.Rex
namespace Go.Rex
open Go.Proofs
open Go Go.Rex Go.RowKit
set_option maxRecDepth 100000
set_option maxHeartbeats 1000000
def y47:=an @ag112 <| an @ag3 <| an @ag30 <| an @cs112 <| an @cs3 <| an @cs30 <| an @cs31 <| an @lX <| an @oK <| an @ok112 <| an @ok3 <| an @ok30 <| an @so149 <| an @st112 <| an @st30 <| an @zc112 <| an @zc30 <| an @zc31 <| an @Kp <| @Ns
theorem iN{v1:Int}{v2:Int}{v3:Int}{v4:Int}{v5:Int}(hr:bH v1 v2=some (v3,v4,v5)):Spec (lim Tryz.prog) 23 [.v (.int .i64 v1),.v (.int .i64 v2)] ⟨[.tuple [.agg [.v (.int .i64 v3),.v (.int .i64 v4)],.v (.int .i64 v5)]],[]⟩:=by
 unfold bH at hr
 have T:=an y47 <| @e_i.eq_1
 apply Spec.fn Tryz.func23 rfl
 focus (simp[Tryz.f23]<;>exact rfl)
 focus
  refine wa_ T (g:=?_)
  obtain⟨v6,h1,hr⟩:=bs hr
  apply TO.cal (wn T) rfl uV (dZ h1) rfl rfl rfl
  repeat exact sd T
  refine wa_ T (g:=?_)
  obtain⟨v7,h2,hr⟩:=bs hr
  apply TO.cal (wn T) rfl uV (dZ h2) rfl rfl rfl
  repeat exact sd T
  refine wa_ T (g:=?_)
  apply TO.bm e_i ([v6,v7]:List Int) (wn T) rfl (by simp only[zz,y47,e_i,Nat.reduceAdd,Nat.reduceMul,Nat.reduceLeDiff,Nat.reduceEqDiff,tslice,tparts];exact rfl) rfl
  repeat exact sd T
  refine wa_ T (g:=?_)
  obtain⟨v8,h3,hr⟩:=bs hr
  apply TO.cal (wn T) rfl nR (aW h3) rfl rfl rfl
  repeat exact sd T
  refine wa_ T (g:=?_)
  rcases ifs hr with⟨h4,hr⟩|⟨h4,hr⟩
  ·have T:=an h4 T
   refine wa_ T (g:=?_)
   cases hr
   refine⟨.inr rfl,_,(ry T),?_⟩
   exact wk_ T [] rfl .nil
  ·have T:=an h4 T
   refine wA T (g:=?_)
   obtain⟨v9,h5,hr⟩:=bs hr
   apply TO.cal (wn T) rfl Sk (jD h5) rfl rfl rfl
   repeat exact sd T
   refine wa_ T (g:=?_)
   apply TO.pop1 (wn T) (kT rfl)
   repeat exact sd T
   refine wa_ T (g:=?_)
   rcases ifs hr with⟨h6,hr⟩|⟨h6,hr⟩
   ·have T:=an h6 T
    refine wA T (g:=?_)
    obtain⟨v10,h7,hr⟩:=bs hr
    apply TO.cal (wn T) rfl Rd (jF h7) rfl rfl rfl
    repeat exact sd T
    refine wa_ T (g:=?_)
    apply TO.pop1 (wn T) (kT rfl)
    repeat exact sd T
    refine wa_ T (g:=?_)
    rcases ifs hr with⟨h8,hr⟩|⟨h8,hr⟩
    ·have T:=an h8 T
     refine wa_ T (g:=?_)
     obtain⟨v15,h13,hr⟩:=bs hr
     refine TX.loopE (step:=eP v1 v2) (x:=(-90)) h13 (fun v11=>⟨.junk :: .junk :: .junk :: .junk :: .lptr 0 0 0 :: .junk :: .junk :: .lptr 1 0 0 :: .lptr 2 0 0 :: .junk :: .junk :: .junk :: .junk :: .junk :: .junk :: .junk :: .junk :: .junk :: .junk :: .junk :: .junk :: .junk :: .junk :: .junk :: .junk :: .junk :: .junk :: .junk :: .junk :: .junk :: .junk :: .junk :: .junk :: .junk :: .junk :: .junk :: .junk :: .junk :: .junk :: .junk :: .junk :: .junk :: .junk :: .junk :: .junk :: .junk :: .junk :: .junk :: .junk :: .junk :: .junk::[],[.var [.v (.int .i64 0),.v (.int .i64 0)],.var [.v (.int .i64 v1),.v (.int .i64 v2)],.var [.v (.int .i64 v11),.v (.int .i64 90)]]⟩) (fun v13=>(.exit 0,⟨.junk :: .junk :: .junk :: .junk :: .lptr 0 0 0 :: .junk :: .junk :: .lptr 1 0 0 :: .lptr 2 0 0 :: .junk :: .junk :: .junk :: .junk :: .junk :: .junk :: .junk :: .junk :: .junk :: .junk :: .junk :: .junk :: .junk :: .junk :: .junk :: .junk :: .junk :: .junk :: .junk :: .junk :: .junk :: .junk :: .junk :: .junk :: .junk :: .junk :: .junk :: .junk :: .junk :: .junk :: .junk :: .junk :: .junk :: .junk :: .junk :: .junk :: .junk :: .junk :: .junk :: .junk :: .junk :: .junk::[],[.var [.v (.int .i64 0),.v (.int .i64 0)],.var [.v (.int .i64 v1),.v (.int .i64 v2)],.var [.v (.int .i64 v13),.v (.int .i64 90)]]⟩)) ?_ ?_ ?_ ?_
     ·rintro v11 v0 hr
      dsimp only[eP] at hr
      try dsimp only
      refine wA T (g:=?_)
      obtain⟨v14,h11,hr⟩:=bs hr
      apply TO.cal (wn T) rfl Sk (jD h11) rfl rfl rfl
      repeat exact sd T
      refine wa_ T (g:=?_)
      rcases ifs hr with⟨h12,hr⟩|⟨h12,hr⟩
      ·have T:=an h12 T
       refine wA T (g:=?_)
       cases hr
       refine⟨rfl,?_⟩
       exact wk_ T [some 0,some 1,some 2] rfl (rv (rv (rv .nil rfl) rfl) rfl)
      ·have T:=an h12 T
       refine wa_ T (g:=?_)
       cases hr
       refine⟨rfl,?_⟩
       exact wk_ T [some 0,some 1,some 2] rfl (rv (rv (rv .nil rfl) rfl) rfl)
     ·intro e h;cases h
     ·try dsimp only
      refine wa_ T (g:=?_)
      obtain⟨v20,h18,hr⟩:=bs hr
      refine TX.loopE (step:=eU v1 v2) (x:=90) h18 (fun v16=>⟨.junk :: .junk :: .junk :: .junk :: .lptr 0 0 0 :: .junk :: .junk :: .lptr 1 0 0 :: .lptr 2 0 0 :: .junk :: .junk :: .junk :: .junk :: .junk :: .junk :: .junk :: .junk :: .junk :: .junk :: .junk :: .junk :: .junk :: .junk :: .junk :: .junk :: .junk :: .junk :: .junk :: .junk :: .junk :: .junk :: .junk :: .junk :: .junk :: .junk :: .junk :: .junk :: .junk :: .junk :: .junk :: .junk :: .junk :: .junk :: .junk :: .junk :: .junk :: .junk :: .junk :: .junk :: .junk :: .junk::[],[.var [.v (.int .i64 0),.v (.int .i64 0)],.var [.v (.int .i64 v1),.v (.int .i64 v2)],.var [.v (.int .i64 v15),.v (.int .i64 v16)]]⟩) (fun v18=>(.exit 2,⟨.junk :: .junk :: .junk :: .junk :: .lptr 0 0 0 :: .junk :: .junk :: .junk :: .lptr 1 0 0 :: .junk :: .junk :: .junk :: .junk :: .junk :: .junk :: .junk :: .junk :: .junk :: .junk :: .junk :: .junk :: .junk :: .junk :: .junk :: .junk :: .junk :: .junk :: .junk :: .junk :: .junk :: .junk :: .junk :: .junk :: .junk :: .junk :: .junk :: .junk :: .junk :: .junk :: .junk :: .junk :: .junk :: .junk :: .junk :: .junk :: .junk :: .junk :: .junk :: .junk :: .junk :: .junk::[],[.var [.v (.int .i64 0),.v (.int .i64 0)],.var [.v (.int .i64 v15),.v (.int .i64 v18)]]⟩)) ?_ ?_ ?_ ?_
      ·rintro v16 v0 hr
       dsimp only[eU] at hr
       try dsimp only
       refine wA T (g:=?_)
       obtain⟨v19,h16,hr⟩:=bs hr
       apply TO.cal (wn T) rfl Rd (jF h16) rfl rfl rfl
       repeat exact sd T
       refine wa_ T (g:=?_)
       rcases ifs hr with⟨h17,hr⟩|⟨h17,hr⟩
       ·have T:=an h17 T
        refine wA T (g:=?_)
        cases hr
        refine⟨rfl,?_⟩
        exact wk_ T [some 0,some 1,some 2] rfl (rv (rv (rv .nil rfl) rfl) rfl)
       ·have T:=an h17 T
        refine wa_ T (g:=?_)
        cases hr
        refine⟨rfl,?_⟩
        exact wk_ T [some 0,some 2] rfl (rv (rv .nil rfl) rfl)
      ·intro e h;cases h
      ·try dsimp only
       refine wA T (g:=?_)
       cases hr
       refine⟨.inr rfl,_,(ry T),?_⟩
       exact wk_ T [] rfl .nil
      ·try dsimp only
       exact wk_ T [some 0,some 1,some 2] rfl (rv (rv (rv .nil rfl) rfl) rfl)
     ·try dsimp only
      exact wk_ T [some 0,some 1,some 2] rfl (rv (rv (rv .nil rfl) rfl) rfl)
    ·have T:=an h8 T
     refine wa_ T (g:=?_)
     cases hr
     refine⟨.inr rfl,_,(ry T),?_⟩
     exact wk_ T [] rfl .nil
   ·have T:=an h6 T
    refine wa_ T (g:=?_)
    cases hr
    refine⟨.inr rfl,_,(ry T),?_⟩
    exact wk_ T [] rfl .nil
 rfl
end Go.Rex
namespace Go.Rex
open Go.Proofs
open Go Go.Rex Go.RowKit
set_option maxRecDepth 100000
set_option maxHeartbeats 1000000
def y48:=an @ag100 <| an @ag3 <| an @ag94 <| an @cs100 <| an @cs30 <| an @cs31 <| an @cs94 <| an @gS <| an @uL <| an @sG <| an @lX <| an @oK <| an @uW <| an @ok100 <| an @ok30 <| an @ok94 <| an @so149 <| an @st100 <| an @zc100 <| an @zc30 <| @zc31
theorem oW{v1:Int}{v2:(List Nat)}{v3:Int}{v4:Int}{v5:Int}{v6:Int}{v7:Int}{v8:Int}(hr:fL v1 v2 v3 v4 v5=some (v6,v7,v8)):Spec (lim Tryz.prog) 68 [.agg [.v (.int .i64 v1),.list 1 (v2.map e_f),.v (.int .i64 v3),.v (.int .i64 v4)],.v (.int .i64 v5)] ⟨[.tuple [.agg [.v (.int .i64 v6),.v (.int .i64 v7)],.v (.int .i64 v8)]],[]⟩:=by
 unfold fL at hr
 have T:=an y48 <| an @e_f.eq_1 <| @e_i.eq_1
 apply Spec.fn Tryz.func68 rfl
 focus (simp[Tryz.f68]<;>exact rfl)
 focus
  refine wB T (g:=?_)
  obtain⟨⟨v9,v10⟩,h1,hr⟩:=bs hr
  try dsimp only at hr
  apply TD.cal (wn T) rfl Tp (lN h1) rfl rfl rfl
  repeat exact sd T
  refine wA T (g:=?_)
  obtain⟨⟨v11,v12⟩,h2,hr⟩:=bs hr
  try dsimp only at hr
  apply TD.cal (wn T) rfl Wm (rP h2) rfl rfl rfl
  repeat exact sd T
  refine wA T (g:=?_)
  obtain⟨v13,h3,hr⟩:=bs hr
  apply TD.cal (wn T) rfl Ma (nE h3) rfl rfl rfl
  repeat exact sd T
  refine wA T (g:=?_)
  obtain⟨v14,h4,hr⟩:=bs hr
  apply TD.cal (wn T) rfl pR (bS h4) rfl rfl rfl
  repeat exact sd T
  refine wa_ T (g:=?_)
  obtain⟨v15,h5,hr⟩:=bs hr
  apply TD.cal (wn T) rfl lV (bC h5) rfl rfl rfl
  repeat exact sd T
  refine wA T (g:=?_)
  rcases ifs hr with⟨h6,hr⟩|⟨h6,hr⟩
  ·have T:=an h6 T
   refine wa_ T (g:=?_)
   obtain⟨v16,h7,hr⟩:=bs hr
   apply TD.cal (wn T) rfl lV (bC h7) rfl rfl rfl
   repeat exact sd T
   refine wa_ T (g:=?_)
   apply TD.bm e_i ([v15,v16]:List Int) (wn T) rfl (by simp only[zz,y48,e_f,e_i,Nat.reduceAdd,Nat.reduceMul,Nat.reduceLeDiff,Nat.reduceEqDiff,tslice,tparts,h6];exact rfl) rfl
   repeat exact sd T
   refine wa_ T (g:=?_)
   obtain⟨v17,h8,hr⟩:=bs hr
   apply TD.cal (wn T) rfl nR (aW h8) rfl rfl rfl
   repeat exact sd T
   refine wa_ T (g:=?_)
   rcases ifs hr with⟨h9,hr⟩|⟨h9,hr⟩
   ·have T:=an h9 T
    refine wa_ T (g:=?_)
    cases hr
    refine⟨.inr rfl,_,(ry T),?_⟩
    exact wk_ T [] rfl .nil
   ·have T:=an h9 T
    refine wA T (g:=?_)
    obtain⟨⟨v18,v19,v20⟩,h10,hr⟩:=bs hr
    try dsimp only at hr
    apply TO.cal (wn T) rfl Eb (iN h10) rfl rfl rfl
    repeat exact sd T
    refine wa_ T (g:=?_)
    rcases ifs hr with⟨h11,hr⟩|⟨h11,hr⟩
    ·have T:=an h11 T
     refine wa_ T (g:=?_)
     cases hr
     refine⟨.inr rfl,_,(ry T),?_⟩
     exact wk_ T [] rfl .nil
    ·have T:=an h11 T
     refine wA T (g:=?_)
     obtain⟨⟨v21,v22,v23⟩,h12,hr⟩:=bs hr
     try dsimp only at hr
     apply TO.cal (wn T) rfl Eb (iN h12) rfl rfl rfl
     repeat exact sd T
     refine wa_ T (g:=?_)
     rcases ifs hr with⟨h13,hr⟩|⟨h13,hr⟩
     ·have T:=an h13 T
      refine wa_ T (g:=?_)
      cases hr
      refine⟨.inr rfl,_,(ry T),?_⟩
      exact wk_ T [] rfl .nil
     ·have T:=an h13 T
      refine wA T (g:=?_)
      obtain⟨⟨v24,v25⟩,h14,hr⟩:=bs hr
      try dsimp only at hr
      apply TO.cal (wn T) rfl kV (bG h14) rfl rfl rfl
      repeat exact sd T
      refine wa_ T (g:=?_)
      cases hr
      refine⟨.inr rfl,_,(ry T),?_⟩
      exact wk_ T [] rfl .nil
  ·have T:=an h6 T
   refine wA T (g:=?_)
   obtain⟨v26,h15,hr⟩:=bs hr
   apply TD.cal (wn T) rfl lV (bC h15) rfl rfl rfl
   repeat exact sd T
   refine wa_ T (g:=?_)
   apply TD.bm e_i ([v15,v26]:List Int) (wn T) rfl (by simp only[zz,y48,e_f,e_i,Nat.reduceAdd,Nat.reduceMul,Nat.reduceLeDiff,Nat.reduceEqDiff,tslice,tparts,h6];exact rfl) rfl
   repeat exact sd T
   refine wa_ T (g:=?_)
   obtain⟨v27,h16,hr⟩:=bs hr
   apply TD.cal (wn T) rfl nR (aW h16) rfl rfl rfl
   repeat exact sd T
   refine wa_ T (g:=?_)
   rcases ifs hr with⟨h17,hr⟩|⟨h17,hr⟩
   ·have T:=an h17 T
    refine wa_ T (g:=?_)
    cases hr
    refine⟨.inr rfl,_,(ry T),?_⟩
    exact wk_ T [] rfl .nil
   ·have T:=an h17 T
    refine wA T (g:=?_)
    obtain⟨⟨v28,v29,v30⟩,h18,hr⟩:=bs hr
    try dsimp only at hr
    apply TO.cal (wn T) rfl Eb (iN h18) rfl rfl rfl
    repeat exact sd T
    refine wa_ T (g:=?_)
    rcases ifs hr with⟨h19,hr⟩|⟨h19,hr⟩
    ·have T:=an h19 T
     refine wa_ T (g:=?_)
     cases hr
     refine⟨.inr rfl,_,(ry T),?_⟩
     exact wk_ T [] rfl .nil
    ·have T:=an h19 T
     refine wA T (g:=?_)
     obtain⟨⟨v31,v32,v33⟩,h20,hr⟩:=bs hr
     try dsimp only at hr
     apply TO.cal (wn T) rfl Eb (iN h20) rfl rfl rfl
     repeat exact sd T
     refine wa_ T (g:=?_)
     rcases ifs hr with⟨h21,hr⟩|⟨h21,hr⟩
     ·have T:=an h21 T
      refine wa_ T (g:=?_)
      cases hr
      refine⟨.inr rfl,_,(ry T),?_⟩
      exact wk_ T [] rfl .nil
     ·have T:=an h21 T
      refine wA T (g:=?_)
      obtain⟨⟨v34,v35⟩,h22,hr⟩:=bs hr
      try dsimp only at hr
      apply TO.cal (wn T) rfl kV (bG h22) rfl rfl rfl
      repeat exact sd T
      refine wa_ T (g:=?_)
      cases hr
      refine⟨.inr rfl,_,(ry T),?_⟩
      exact wk_ T [] rfl .nil
 rfl
end Go.Rex
namespace Go.Rex
open Go.Proofs
open Go Go.Rex Go.RowKit
set_option maxRecDepth 100000
set_option maxHeartbeats 200000
def y49:=an @ag26 <| an @ag30 <| an @ag94 <| an @cs100 <| an @cs26 <| an @cs30 <| an @cs31 <| an @cs94 <| an @gS <| an @ok100 <| an @ok26 <| an @ok30 <| an @ok94 <| an @so149 <| an @st30 <| an @zc100 <| an @zc30 <| an @zc31 <| @zc94
theorem nV{v1:Int}{v2:(List Nat)}{v3:Int}{v4:Int}{v5:Int}{v6:Int}{v7:Int}{v8:Int}(hr:fH v1 v2 v3 v4 v5=some (v6,v7,v8)):Spec (lim Tryz.prog) 26 [.agg [.v (.int .i64 v1),.list 1 (v2.map e_f),.v (.int .i64 v3),.v (.int .i64 v4)],.v (.int .i64 v5)] ⟨[.tuple [.agg [.v (.int .i64 v6),.v (.int .i64 v7)],.v (.int .i64 v8)]],[]⟩:=by
 unfold fH at hr
 have T:=an y49 <| an @e_f.eq_1 <| @e_i.eq_1
 apply Spec.fn Tryz.func26 rfl
 focus (simp[Tryz.f26]<;>exact rfl)
 focus
  refine wB T (g:=?_)
  obtain⟨⟨v9,v10,v11,v12,v13⟩,h1,hr⟩:=bs hr
  try dsimp only at hr
  apply TO.cal (wn T) rfl zT (iQ h1) rfl rfl rfl
  repeat exact sd T
  refine wa_ T (g:=?_)
  obtain⟨v14,h2,hr⟩:=bs hr
  apply TO.cal (wn T) rfl Si (mK h2) rfl rfl rfl
  repeat exact sd T
  refine wa_ T (g:=?_)
  apply TO.bm e_i ([v13,v14]:List Int) (wn T) rfl (by simp only[zz,y49,e_f,e_i,Nat.reduceAdd,Nat.reduceMul,Nat.reduceLeDiff,Nat.reduceEqDiff,tslice,tparts];exact rfl) rfl
  repeat exact sd T
  refine wa_ T (g:=?_)
  obtain⟨v15,h3,hr⟩:=bs hr
  apply TO.cal (wn T) rfl nR (aW h3) rfl rfl rfl
  repeat exact sd T
  refine wa_ T (g:=?_)
  rcases ifs hr with⟨h4,hr⟩|⟨h4,hr⟩
  ·have T:=an h4 T
   refine wa_ T (g:=?_)
   cases hr
   refine⟨.inr rfl,_,(ry T),?_⟩
   exact wk_ T [] rfl .nil
  ·have T:=an h4 T
   refine wA T (g:=?_)
   obtain⟨⟨v16,v17,v18⟩,h5,hr⟩:=bs hr
   try dsimp only at hr
   apply TO.cal (wn T) rfl Xr (oW h5) rfl rfl rfl
   repeat exact sd T
   refine wA T (g:=?_)
   cases hr
   refine⟨.inr rfl,_,(ry T),?_⟩
   exact wk_ T [] rfl .nil
 rfl
end Go.Rex
namespace Go.Rex
open Go.Proofs
open Go Go.Rex Go.RowKit
set_option maxRecDepth 100000
set_option maxHeartbeats 200000
theorem oX{v1:Int}{v2:Int}{v3:Int}(hr:fK v1 v2=some (v3)):Spec (lim Tryz.prog) 144 [.v (.int .i64 v1),.v (.int .i64 v2)] ⟨[.v (.int .i64 v3)],[]⟩:=by
 unfold fK at hr
 have T:=trivial
 apply Spec.fn Tryz.func144 rfl
 focus (simp[Tryz.f144]<;>exact rfl)
 focus
  refine wa_ T (g:=?_)
  obtain⟨v7,h5,hr⟩:=bs hr
  refine TX.loopE (step:=cE) (x:=(v1,v2)) h5 (fun (v4,v5)=>⟨.v (.int .i64 v4) :: .v (.int .i64 v5) :: .junk :: .junk :: .junk :: .junk :: .junk :: .junk :: .junk :: .junk :: .junk :: .junk::[],[]⟩) (fun v6=>(.exit 0,⟨.junk :: .v (.int .i64 v6) :: .junk :: .junk :: .junk :: .junk :: .junk :: .junk :: .junk :: .junk :: .junk :: .junk::[],[]⟩)) ?_ ?_ ?_ ?_
  ·rintro⟨v4,v5⟩ v0 hr
   dsimp only[cE] at hr
   try dsimp only
   refine wa_ T (g:=?_)
   rcases ifs hr with⟨h3,hr⟩|⟨h3,hr⟩
   ·have T:=an h3 T
    refine wa_ T (g:=?_)
    by_cases h4:v4=0
    ·rw[if_pos h4] at hr
     cases hr
    ·rw[if_neg h4] at hr
     have T:=an h4 T
     refine wa_ T (g:=?_)
     cases hr
     refine⟨rfl,?_⟩
     exact wk_ T [] rfl .nil
   ·have T:=an h3 T
    refine wa_ T (g:=?_)
    cases hr
    refine⟨rfl,?_⟩
    exact wk_ T [] rfl .nil
  ·intro e h;cases h
  ·try dsimp only
   refine wa_ T (g:=?_)
   cases hr
   refine⟨.inr rfl,_,(ry T),?_⟩
   exact wr [] rfl .nil
  ·try dsimp only
   exact wr [] rfl .nil
 rfl
end Go.Rex
namespace Go.Rex
open Go.Proofs
open Go Go.Rex Go.RowKit
set_option maxRecDepth 100000
set_option maxHeartbeats 200000
def y50:=an @ag3 <| an @ag50 <| an @cs50 <| an @Ze <| an @Yn <| an @ok50 <| an @st50 <| @zc50
theorem sB{v1:Int}{v2:Int}{v3:Int}{v4:Int}{v5:Int}(hr:kW v1 v2=some (v3,v4,v5)):Spec (lim Tryz.prog) 115 [.v (.int .i64 v1),.v (.int .i64 v2)] ⟨[.tuple [.agg [.v (.int .i64 v3),.v (.int .i64 v4)],.v (.int .i64 v5)]],[]⟩:=by
 unfold kW at hr
 have T:=y50
 apply Spec.fn Tryz.func115 rfl
 focus (simp[Tryz.f115]<;>exact rfl)
 focus
  refine wa_ T (g:=?_)
  obtain⟨v6,h1,hr⟩:=bs hr
  apply TO.cal (wn T) rfl We (oX h1) rfl rfl rfl
  repeat exact sd T
  refine wa_ T (g:=?_)
  by_cases h2:v6=0
  ·rw[if_pos h2] at hr
   cases hr
  ·rw[if_neg h2] at hr
   have T:=an h2 T
   refine wA T (g:=?_)
   rcases ifs hr with⟨h3,hr⟩|⟨h3,hr⟩
   ·have T:=an h3 T
    refine wa_ T (g:=?_)
    cases hr
    refine⟨.inr rfl,_,(ry T),?_⟩
    exact wk_ T [] rfl .nil
   ·have T:=an h3 T
    refine wA T (g:=?_)
    rcases ifs hr with⟨h4,hr⟩|⟨h4,hr⟩
    ·have T:=an h4 T
     refine wa_ T (g:=?_)
     cases hr
     refine⟨.inr rfl,_,(ry T),?_⟩
     exact wk_ T [] rfl .nil
    ·have T:=an h4 T
     refine wA T (g:=?_)
     cases hr
     refine⟨.inr rfl,_,(ry T),?_⟩
     exact wk_ T [] rfl .nil
 rfl
end Go.Rex
namespace Go.Rex
open Go.Proofs
open Go Go.Rex Go.RowKit
set_option maxRecDepth 100000
set_option maxHeartbeats 200000
def y51:=an @ag50 <| an @cs50 <| an @ok50 <| an @st50 <| @zc50
theorem vR{v1:Int}{v2:Int}{v3:Int}{v4:Int}{v5:Int}(hr:kE v1 v2=some (v3,v4,v5)):Spec (lim Tryz.prog) 71 [.v (.int .i64 v1),.v (.int .i64 v2)] ⟨[.tuple [.agg [.v (.int .i64 v3),.v (.int .i64 v4)],.v (.int .i64 v5)]],[]⟩:=by
 unfold kE at hr
 have T:=y51
 apply Spec.fn Tryz.func71 rfl
 focus (simp[Tryz.f71]<;>exact rfl)
 focus
  refine wa_ T (g:=?_)
  rcases ifs hr with⟨h1,hr⟩|⟨h1,hr⟩
  ·have T:=an h1 T
   refine wa_ T (g:=?_)
   cases hr
   refine⟨.inr rfl,_,(ry T),?_⟩
   exact wk_ T [] rfl .nil
  ·have T:=an h1 T
   refine wa_ T (g:=?_)
   obtain⟨⟨v6,v7,v8⟩,h2,hr⟩:=bs hr
   try dsimp only at hr
   apply TO.cal (wn T) rfl Wg (sB h2) rfl rfl rfl
   repeat exact sd T
   refine wa_ T (g:=?_)
   cases hr
   refine⟨.inr rfl,_,(ry T),?_⟩
   exact wk_ T [] rfl .nil
 rfl
end Go.Rex
namespace Go.Rex
open Go.Proofs
open Go Go.Rex Go.RowKit
set_option maxRecDepth 100000
set_option maxHeartbeats 200000
def y52:=an @ag24 <| an @ag3 <| an @ag30 <| an @ag50 <| an @ag94 <| an @cs24 <| an @cs30 <| an @cs31 <| an @cs50 <| an @cs94 <| an @gS <| an @lX <| an @ok24 <| an @ok30 <| an @ok50 <| an @ok94 <| an @so149 <| an @st50 <| an @zc31 <| an @zc50 <| @zc94
theorem lY{v1:Int}{v2:(List Nat)}{v3:Int}{v4:Int}{v5:Int}{v6:Int}(hr:dK v1 v2 v3=some (v4,v5,v6)):Spec (lim Tryz.prog) 29 [.agg [.v (.int .i64 v1),.list 1 (v2.map e_f)],.v (.int .i64 v3)] ⟨[.tuple [.agg [.v (.int .i64 v4),.v (.int .i64 v5)],.v (.int .i64 v6)]],[]⟩:=by
 unfold dK at hr
 have T:=an y52 <| an @e_f.eq_1 <| @e_i.eq_1
 apply Spec.fn Tryz.func29 rfl
 focus (simp[Tryz.f29]<;>exact rfl)
 focus
  refine wB T (g:=?_)
  obtain⟨⟨v7,v8⟩,h1,hr⟩:=bs hr
  try dsimp only at hr
  apply TO.cal (wn T) rfl Ku (lU h1) rfl rfl rfl
  repeat exact sd T
  refine wa_ T (g:=?_)
  obtain⟨⟨v9,v10,v11,v12,v13⟩,h2,hr⟩:=bs hr
  try dsimp only at hr
  apply TO.cal (wn T) rfl zT (iQ h2) rfl rfl rfl
  repeat exact sd T
  refine wa_ T (g:=?_)
  obtain⟨v14,h3,hr⟩:=bs hr
  apply TO.cal (wn T) rfl Si (mK h3) rfl rfl rfl
  repeat exact sd T
  refine wa_ T (g:=?_)
  apply TO.bm e_i ([v13,v14]:List Int) (wn T) rfl (by simp only[zz,y52,e_f,e_i,Nat.reduceAdd,Nat.reduceMul,Nat.reduceLeDiff,Nat.reduceEqDiff,tslice,tparts];exact rfl) rfl
  repeat exact sd T
  refine wa_ T (g:=?_)
  obtain⟨v15,h4,hr⟩:=bs hr
  apply TO.cal (wn T) rfl nR (aW h4) rfl rfl rfl
  repeat exact sd T
  refine wa_ T (g:=?_)
  rcases ifs hr with⟨h5,hr⟩|⟨h5,hr⟩
  ·have T:=an h5 T
   refine wa_ T (g:=?_)
   cases hr
   refine⟨.inr rfl,_,(ry T),?_⟩
   exact wk_ T [] rfl .nil
  ·have T:=an h5 T
   refine wA T (g:=?_)
   obtain⟨⟨v16,v17⟩,h6,hr⟩:=bs hr
   try dsimp only at hr
   apply TD.cal (wn T) rfl Tp (lN h6) rfl rfl rfl
   repeat exact sd T
   refine wA T (g:=?_)
   obtain⟨⟨v18,v19⟩,h7,hr⟩:=bs hr
   try dsimp only at hr
   apply TD.cal (wn T) rfl Kl (jM h7) rfl rfl rfl
   repeat exact sd T
   refine wa_ T (g:=?_)
   obtain⟨⟨v20,v21,v22⟩,h8,hr⟩:=bs hr
   try dsimp only at hr
   apply TD.cal (wn T) rfl Xm (vR h8) rfl rfl rfl
   repeat exact sd T
   refine wa_ T (g:=?_)
   cases hr
   refine⟨.inr rfl,_,(ry T),?_⟩
   exact wk_ T [] rfl .nil
 rfl
end Go.Rex
namespace Go.Rex
open Go.Proofs
open Go Go.Rex Go.RowKit
set_option maxRecDepth 100000
set_option maxHeartbeats 200000
def y53:=an @ag100 <| an @ag94 <| an @cs100 <| an @cs94 <| an @ok100 <| an @ok94 <| an @zc100 <| @lW
theorem qA{v1:Int}{v2:(List Nat)}{v3:Int}{v4:Int}{v5:Int}{v6:Int}(hr:fY v1 v2 v3 v4=some (v5,v6)):Spec (lim Tryz.prog) 134 [.agg [.v (.int .i64 v1),.list 1 (v2.map e_f),.v (.int .i64 v3),.v (.int .i64 v4)]] ⟨[.agg [.v (.int .i64 v5),.v (.int .i64 v6)]],[]⟩:=by
 unfold fY at hr
 have T:=an y53 <| @e_f.eq_1
 apply Spec.fn Tryz.func134 rfl
 focus (simp[Tryz.f134]<;>exact rfl)
 focus
  refine wB T (g:=?_)
  obtain⟨v7,h1,hr⟩:=bs hr
  apply TO.cal (wn T) rfl pR (bS h1) rfl rfl rfl
  repeat exact sd T
  refine wa_ T (g:=?_)
  obtain⟨⟨v25,v26⟩,h10,hr⟩:=bs hr
  try dsimp only at hr
  refine TX.loopE (step:=dB v1 v2 v3 v4 v7) (x:=(0,0,0)) h10 (fun (v8,v9,v10)=>⟨.junk :: .fptr true [.v (.int .i64 v1),.list 1 (v2.map e_f),.v (.int .i64 v3),.v (.int .i64 v4)] 0 :: .lptr 0 0 0 :: .lptr 1 0 0 :: .junk :: .junk :: .v (.int .i64 v7) :: .v (.int .i64 v10) :: .junk :: .junk :: .junk :: .junk :: .junk :: .junk :: .junk :: .junk :: .junk :: .junk :: .junk::[],[.var [.v (.int .i64 0),.v (.int .i64 0)],.var [.v (.int .i64 v8),.v (.int .i64 v9)]]⟩) (fun (v17,v18)=>(.exit 0,⟨.junk :: .junk :: .lptr 0 0 0 :: .lptr 1 0 0 :: .junk :: .junk :: .junk :: .junk :: .junk :: .junk :: .junk :: .junk :: .junk :: .junk :: .junk :: .junk :: .junk :: .junk :: .junk::[],[.var [.v (.int .i64 0),.v (.int .i64 0)],.var [.v (.int .i64 v17),.v (.int .i64 v18)]]⟩)) ?_ ?_ ?_ ?_
  ·rintro⟨v8,v9,v10⟩ v0 hr
   dsimp only[dB] at hr
   try dsimp only
   refine wa_ T (g:=?_)
   rcases ifs hr with⟨h6,hr⟩|⟨h6,hr⟩
   ·have T:=an h6 T
    refine wA T (g:=?_)
    obtain⟨⟨v19,v20⟩,h7,hr⟩:=bs hr
    try dsimp only at hr
    apply TD.cal (wn T) rfl Dv (iK h7) rfl rfl rfl
    repeat exact sd T
    refine wa_ T (g:=?_)
    obtain⟨⟨v21,v22⟩,h8,hr⟩:=bs hr
    try dsimp only at hr
    apply TD.cal (wn T) rfl tP (dD h8) rfl rfl rfl
    repeat exact sd T
    refine wa_ T (g:=?_)
    obtain⟨⟨v23,v24⟩,h9,hr⟩:=bs hr
    try dsimp only at hr
    apply TD.cal (wn T) rfl Ft (jN h9) rfl rfl rfl
    repeat exact sd T
    refine wa_ T (g:=?_)
    cases hr
    refine⟨rfl,?_⟩
    exact wk_ T [some 0,some 1] rfl (rv (rv .nil rfl) rfl)
   ·have T:=an h6 T
    refine wa_ T (g:=?_)
    cases hr
    refine⟨rfl,?_⟩
    exact wk_ T [some 0,some 1] rfl (rv (rv .nil rfl) rfl)
  ·intro e h;cases h
  ·try dsimp only
   refine wA T (g:=?_)
   cases hr
   refine⟨.inr rfl,_,(ry T),?_⟩
   exact wr [] rfl .nil
  ·try dsimp only
   exact wr [some 0,some 1] rfl (rv (rv .nil rfl) rfl)
 rfl
end Go.Rex
namespace Go.Rex
open Go.Proofs
open Go Go.Rex Go.RowKit
set_option maxRecDepth 100000
set_option maxHeartbeats 1000000
def y54:=an @un122 <| an @un3 <| an @un5 <| an @us9 <| an @Pc <| an @Ua <| an @Px <| an @Kr <| an @Pr <| @Pm
theorem sL{v1:Int}{v2:Int}(hr:iA v1=some (v2)):Spec (lim Tryz.prog) 181 [.v (.int .u64 v1)] ⟨[.v (.int .i64 v2)],[]⟩:=by
 unfold iA at hr
 have T:=y54
 apply Spec.fn Tryz.func181 rfl
 focus (simp[Tryz.f181]<;>exact rfl)
 focus
  refine wa_ T (g:=?_)
  rcases ifs hr with⟨h1,hr⟩|⟨h1,hr⟩
  ·have T:=an h1 T
   refine wa_ T (g:=?_)
   obtain⟨v3,h2,hr⟩:=bs hr
   apply TO.pop1 (wn T) (dE rfl rfl (by decide) (h2))
   repeat exact sd T
   refine wa_ T (g:=?_)
   rcases ifs hr with⟨h3,hr⟩|⟨h3,hr⟩
   ·have T:=an h3 T
    refine wa_ T (g:=?_)
    obtain⟨v4,h4,hr⟩:=bs hr
    apply TO.pop1 (wn T) (dE rfl rfl (by decide) (h4))
    repeat exact sd T
    refine wa_ T (g:=?_)
    rcases ifs hr with⟨h5,hr⟩|⟨h5,hr⟩
    ·have T:=an h5 T
     refine wa_ T (g:=?_)
     obtain⟨v5,h6,hr⟩:=bs hr
     apply TO.pop1 (wn T) (dE rfl rfl (by decide) (h6))
     repeat exact sd T
     refine wa_ T (g:=?_)
     apply TO.pop1 (wn T) (bM un122 un5 rfl)
     repeat exact sd T
     refine wa_ T (g:=?_)
     obtain⟨v6,h7,hr⟩:=bs hr
     apply TO.pop1 (wn T) (lJ rfl rfl us9 h7)
     repeat exact sd T
     refine wa_ T (g:=?_)
     apply TO.pop1 (wn T) (bM un5 un3 rfl)
     repeat exact sd T
     refine wa_ T (g:=?_)
     cases hr
     refine⟨.inr rfl,_,(ry T),?_⟩
     exact wk_ T [] rfl .nil
    ·have T:=an h5 T
     refine wa_ T (g:=?_)
     apply TO.pop1 (wn T) (bM un122 un5 rfl)
     repeat exact sd T
     refine wa_ T (g:=?_)
     obtain⟨v7,h8,hr⟩:=bs hr
     apply TO.pop1 (wn T) (lJ rfl rfl us9 h8)
     repeat exact sd T
     refine wa_ T (g:=?_)
     apply TO.pop1 (wn T) (bM un5 un3 rfl)
     repeat exact sd T
     refine wa_ T (g:=?_)
     cases hr
     refine⟨.inr rfl,_,(ry T),?_⟩
     exact wk_ T [] rfl .nil
   ·have T:=an h3 T
    refine wa_ T (g:=?_)
    rcases ifs hr with⟨h9,hr⟩|⟨h9,hr⟩
    ·have T:=an h9 T
     refine wa_ T (g:=?_)
     obtain⟨v8,h10,hr⟩:=bs hr
     apply TO.pop1 (wn T) (dE rfl rfl (by decide) (h10))
     repeat exact sd T
     refine wa_ T (g:=?_)
     apply TO.pop1 (wn T) (bM un122 un5 rfl)
     repeat exact sd T
     refine wa_ T (g:=?_)
     obtain⟨v9,h11,hr⟩:=bs hr
     apply TO.pop1 (wn T) (lJ rfl rfl us9 h11)
     repeat exact sd T
     refine wa_ T (g:=?_)
     apply TO.pop1 (wn T) (bM un5 un3 rfl)
     repeat exact sd T
     refine wa_ T (g:=?_)
     cases hr
     refine⟨.inr rfl,_,(ry T),?_⟩
     exact wk_ T [] rfl .nil
    ·have T:=an h9 T
     refine wa_ T (g:=?_)
     apply TO.pop1 (wn T) (bM un122 un5 rfl)
     repeat exact sd T
     refine wa_ T (g:=?_)
     obtain⟨v10,h12,hr⟩:=bs hr
     apply TO.pop1 (wn T) (lJ rfl rfl us9 h12)
     repeat exact sd T
     refine wa_ T (g:=?_)
     apply TO.pop1 (wn T) (bM un5 un3 rfl)
     repeat exact sd T
     refine wa_ T (g:=?_)
     cases hr
     refine⟨.inr rfl,_,(ry T),?_⟩
     exact wk_ T [] rfl .nil
  ·have T:=an h1 T
   refine wa_ T (g:=?_)
   rcases ifs hr with⟨h13,hr⟩|⟨h13,hr⟩
   ·have T:=an h13 T
    refine wa_ T (g:=?_)
    obtain⟨v11,h14,hr⟩:=bs hr
    apply TO.pop1 (wn T) (dE rfl rfl (by decide) (h14))
    repeat exact sd T
    refine wa_ T (g:=?_)
    rcases ifs hr with⟨h15,hr⟩|⟨h15,hr⟩
    ·have T:=an h15 T
     refine wa_ T (g:=?_)
     obtain⟨v12,h16,hr⟩:=bs hr
     apply TO.pop1 (wn T) (dE rfl rfl (by decide) (h16))
     repeat exact sd T
     refine wa_ T (g:=?_)
     apply TO.pop1 (wn T) (bM un122 un5 rfl)
     repeat exact sd T
     refine wa_ T (g:=?_)
     obtain⟨v13,h17,hr⟩:=bs hr
     apply TO.pop1 (wn T) (lJ rfl rfl us9 h17)
     repeat exact sd T
     refine wa_ T (g:=?_)
     apply TO.pop1 (wn T) (bM un5 un3 rfl)
     repeat exact sd T
     refine wa_ T (g:=?_)
     cases hr
     refine⟨.inr rfl,_,(ry T),?_⟩
     exact wk_ T [] rfl .nil
    ·have T:=an h15 T
     refine wa_ T (g:=?_)
     apply TO.pop1 (wn T) (bM un122 un5 rfl)
     repeat exact sd T
     refine wa_ T (g:=?_)
     obtain⟨v14,h18,hr⟩:=bs hr
     apply TO.pop1 (wn T) (lJ rfl rfl us9 h18)
     repeat exact sd T
     refine wa_ T (g:=?_)
     apply TO.pop1 (wn T) (bM un5 un3 rfl)
     repeat exact sd T
     refine wa_ T (g:=?_)
     cases hr
     refine⟨.inr rfl,_,(ry T),?_⟩
     exact wk_ T [] rfl .nil
   ·have T:=an h13 T
    refine wa_ T (g:=?_)
    rcases ifs hr with⟨h19,hr⟩|⟨h19,hr⟩
    ·have T:=an h19 T
     refine wa_ T (g:=?_)
     obtain⟨v15,h20,hr⟩:=bs hr
     apply TO.pop1 (wn T) (dE rfl rfl (by decide) (h20))
     repeat exact sd T
     refine wa_ T (g:=?_)
     apply TO.pop1 (wn T) (bM un122 un5 rfl)
     repeat exact sd T
     refine wa_ T (g:=?_)
     obtain⟨v16,h21,hr⟩:=bs hr
     apply TO.pop1 (wn T) (lJ rfl rfl us9 h21)
     repeat exact sd T
     refine wa_ T (g:=?_)
     apply TO.pop1 (wn T) (bM un5 un3 rfl)
     repeat exact sd T
     refine wa_ T (g:=?_)
     cases hr
     refine⟨.inr rfl,_,(ry T),?_⟩
     exact wk_ T [] rfl .nil
    ·have T:=an h19 T
     refine wa_ T (g:=?_)
     apply TO.pop1 (wn T) (bM un122 un5 rfl)
     repeat exact sd T
     refine wa_ T (g:=?_)
     obtain⟨v17,h22,hr⟩:=bs hr
     apply TO.pop1 (wn T) (lJ rfl rfl us9 h22)
     repeat exact sd T
     refine wa_ T (g:=?_)
     apply TO.pop1 (wn T) (bM un5 un3 rfl)
     repeat exact sd T
     refine wa_ T (g:=?_)
     cases hr
     refine⟨.inr rfl,_,(ry T),?_⟩
     exact wk_ T [] rfl .nil
 rfl
end Go.Rex
namespace Go.Rex
open Go.Proofs
open Go Go.Rex Go.RowKit
set_option maxRecDepth 100000
set_option maxHeartbeats 200000
theorem nJ{v1:Int}{v2:Int}(hr:dP v1=some (v2)):Spec (lim Tryz.prog) 168 [.v (.int .u64 v1)] ⟨[.v (.int .i64 v2)],[]⟩:=by
 unfold dP at hr
 have T:=trivial
 apply Spec.fn Tryz.func168 rfl
 focus (simp[Tryz.f168]<;>exact rfl)
 focus
  refine wa_ T (g:=?_)
  obtain⟨v3,h1,hr⟩:=bs hr
  apply TO.cal (wn T) rfl Wv (sL h1) rfl rfl rfl
  repeat exact sd T
  refine wa_ T (g:=?_)
  cases hr
  refine⟨.inr rfl,_,(ry T),?_⟩
  exact wr [] rfl .nil
 rfl
end Go.Rex
