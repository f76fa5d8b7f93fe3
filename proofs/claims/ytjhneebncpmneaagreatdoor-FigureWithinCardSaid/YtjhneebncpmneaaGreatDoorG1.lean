/- Proofs that the program's functions do what these plain functions say. -/
import Derived.Test.YtjhneebncpmneaaGreatDoorGB
import Derived.Test.YtjhneebncpmneaaGreatDoorS
set_option linter.unusedSimpArgs false
set_option linter.unusedVariables false
set_option linter.defProp false
namespace Go.Rex
open Go.Proofs
open Go Go.Rex Go.RowKit
set_option maxRecDepth 100000
set_option maxHeartbeats 200000
def y1:=an @ag22 <| an @uM <| @so22
theorem Am{v1:Int}{v2:(List Nat)}{v3:Bool}(hr:dT v1 v2=some (v3)):Spec (lim Tryz.prog) 13 [.agg [.v (.int .i64 v1),.list 1 (v2.map e_f)]] ⟨[.v (.bool v3)],[]⟩:=by
 unfold dT at hr
 have T:=an y1 <| @e_f.eq_1
 apply Spec.fn Tryz.func13 rfl
 focus (simp[Tryz.f13]<;>exact rfl)
 focus
  refine wD T (g:=?_)
  rcases ifs hr with⟨h1,hr⟩|⟨h1,hr⟩
  ·have T:=an h1 T
   refine wa_ T (g:=?_)
   cases hr
   refine⟨.inr rfl,_,(ry T),?_⟩
   exact wk_ T [] rfl .nil
  ·have T:=an h1 T
   refine wC T (g:=?_)
   rcases ifs hr with⟨h2,hr⟩|⟨h2,hr⟩
   ·have T:=an h2 T
    refine wC T (g:=?_)
    cases hr
    refine⟨.inr rfl,_,(ry T),?_⟩
    exact wk_ T [] rfl .nil
   ·have T:=an h2 T
    refine wa_ T (g:=?_)
    cases hr
    refine⟨.inr rfl,_,(ry T),?_⟩
    exact wk_ T [] rfl .nil
 rfl
theorem gF{v1:Int}{v2:Int}{v3:Int}{v4:Bool}(hr:bC v1 v2 v3=some (v4)):Spec (lim Tryz.prog) 25 [.v (.int .i64 v1),.v (.int .i64 v2),.v (.int .i64 v3)] ⟨[.v (.bool v4)],[]⟩:=by
 unfold bC at hr
 have T:=trivial
 apply Spec.fn Tryz.func25 rfl
 focus (simp[Tryz.f25]<;>exact rfl)
 focus
  refine wa_ T (g:=?_)
  rcases ifs hr with⟨h1,hr⟩|⟨h1,hr⟩
  ·have T:=an h1 T
   refine wa_ T (g:=?_)
   cases hr
   refine⟨.inr rfl,_,(ry T),?_⟩
   exact wk_ T [] rfl .nil
  ·have T:=an h1 T
   refine wa_ T (g:=?_)
   cases hr
   refine⟨.inr rfl,_,(ry T),?_⟩
   exact wk_ T [] rfl .nil
 rfl
theorem wN{v1:Int}{v2:Bool}(hr:lX v1=some (v2)):Spec (lim Tryz.prog) 101 [.v (.int .i64 v1)] ⟨[.v (.bool v2)],[]⟩:=by
 unfold lX at hr
 have T:=trivial
 apply Spec.fn Tryz.func101 rfl
 focus (simp[Tryz.f101]<;>exact rfl)
 focus
  refine wa_ T (g:=?_)
  obtain⟨v3,h1,hr⟩:=bs hr
  apply TO.cal (wn T) rfl xD (gF h1) rfl rfl rfl
  repeat exact sd T
  refine wa_ T (g:=?_)
  cases hr
  refine⟨.inr rfl,_,(ry T),?_⟩
  exact wr [] rfl .nil
 rfl
end Go.Rex
namespace Go.Rex
open Go.Proofs
open Go Go.Rex Go.RowKit
set_option maxRecDepth 100000
set_option maxHeartbeats 1000000
def y2:=an @un121 <| @un3
theorem vD{v1:Nat}{v2:Bool}(hr:hZ v1=some (v2)):Spec (lim Tryz.prog) 102 [.v (.float .f64 v1)] ⟨[.v (.bool v2)],[]⟩:=by
 unfold hZ at hr
 have T:=y2
 apply Spec.fn Tryz.func102 rfl
 focus (simp[Tryz.f102]<;>exact rfl)
 focus
  refine wa_ T (g:=?_)
  apply TO.pop1 (wn T) (jB rfl rfl (by decide))
  repeat exact sd T
  refine wa_ T (g:=?_)
  rcases ifs hr with⟨h1,hr⟩|⟨h1,hr⟩
  ·have T:=an h1 T
   refine wa_ T (g:=?_)
   cases hr
   refine⟨.inr rfl,_,(ry T),?_⟩
   exact wk_ T [] rfl .nil
  ·have T:=an h1 T
   refine wa_ T (g:=?_)
   obtain⟨v3,h2,hr⟩:=bs hr
   apply TO.pop1 (wn T) (Bj rfl rfl (by decide) (h2))
   repeat exact sd T
   refine wa_ T (g:=?_)
   apply TO.pop1 (wn T) (jB rfl rfl (by decide))
   repeat exact sd T
   refine wa_ T (g:=?_)
   rcases ifs hr with⟨h3,hr⟩|⟨h3,hr⟩
   ·have T:=an h3 T
    refine wa_ T (g:=?_)
    cases hr
    refine⟨.inr rfl,_,(ry T),?_⟩
    exact wk_ T [] rfl .nil
   ·have T:=an h3 T
    refine wa_ T (g:=?_)
    apply TO.pop1 (wn T) (jB rfl rfl (by decide))
    repeat exact sd T
    refine wa_ T (g:=?_)
    rcases ifs hr with⟨h4,hr⟩|⟨h4,hr⟩
    ·have T:=an h4 T
     refine wa_ T (g:=?_)
     apply TO.pop1 (wn T) (jB rfl rfl (by decide))
     repeat exact sd T
     refine wa_ T (g:=?_)
     apply TO.pop1 (wn T) (fS rfl)
     repeat exact sd T
     refine wa_ T (g:=?_)
     rcases ifs hr with⟨h5,hr⟩|⟨h5,hr⟩
     ·have T:=an h5 T
      refine wa_ T (g:=?_)
      obtain⟨v4,h6,hr⟩:=bs hr
      apply TO.pop1 (wn T) (tU un121 un3 rfl h6)
      repeat exact sd T
      refine wa_ T (g:=?_)
      apply TO.pop1 (wn T) (qA un3 un121 rfl)
      repeat exact sd T
      refine wa_ T (g:=?_)
      apply TO.pop1 (wn T) (jB rfl rfl (by decide))
      repeat exact sd T
      refine wa_ T (g:=?_)
      cases hr
      refine⟨.inr rfl,_,(ry T),?_⟩
      exact wk_ T [] rfl .nil
     ·have T:=an h5 T
      refine wa_ T (g:=?_)
      cases hr
      refine⟨.inr rfl,_,(ry T),?_⟩
      exact wk_ T [] rfl .nil
    ·have T:=an h4 T
     refine wa_ T (g:=?_)
     apply TO.pop1 (wn T) (fS rfl)
     repeat exact sd T
     refine wa_ T (g:=?_)
     cases hr
     refine⟨.inr rfl,_,(ry T),?_⟩
     exact wk_ T [] rfl .nil
 rfl
def y3:=an @ag22 <| an @ag3 <| an @ag82 <| an @cs82 <| an @uN <| an @uM <| an @ok82 <| an @so22 <| an @un121 <| an @un82 <| @nJ
theorem kS{v1:Int}{v2:(List Nat)}{v3:Int}{v4:Int}(hr:dK v1 v2=some (v3,v4)):Spec (lim Tryz.prog) 57 [.agg [.v (.int .i64 v1),.list 1 (v2.map e_f)]] ⟨[.tuple [.v (.int .i64 v3),.v (.int .i64 v4)]],[]⟩:=by
 unfold dK at hr
 have T:=an y3 <| @e_f.eq_1
 apply Spec.fn Tryz.func57 rfl
 focus (simp[Tryz.f57]<;>exact rfl)
 focus
  refine wB T (g:=?_)
  obtain⟨v5,h1,hr⟩:=bs hr
  apply TO.cal (wn T) rfl Ux (wN h1) rfl rfl rfl
  repeat exact sd T
  refine wa_ T (g:=?_)
  apply TO.pop1 (wn T) (fS rfl)
  repeat exact sd T
  refine wa_ T (g:=?_)
  rcases ifs hr with⟨h2,hr⟩|⟨h2,hr⟩
  ·have T:=an h2 T
   refine wC T (g:=?_)
   rcases ifs hr with⟨h3,hr⟩|⟨h3,hr⟩
   ·have T:=an h3 T
    refine wa_ T (g:=?_)
    cases hr
    refine⟨.inr rfl,_,(ry T),?_⟩
    exact wk_ T [] rfl .nil
   ·have T:=an h3 T
    refine wC T (g:=?_)
    rcases ifs hr with⟨h4,hr⟩|⟨h4,hr⟩
    ·have T:=an h4 T
     refine wa_ T (g:=?_)
     cases hr
     refine⟨.inr rfl,_,(ry T),?_⟩
     exact wk_ T [] rfl .nil
    ·have T:=an h4 T
     refine wa_ T (g:=?_)
     obtain⟨v15,h19,hr⟩:=bs hr
     refine TX.loopE (step:=bX v2) (x:=0) h19 (fun v6=>⟨.Z::.fptr true [.v (.int .i64 v1),.list 1 (v2.map e_f)] 0::.Z::.Z::.v (.int .i64 v6)::.Z::.Z::.Z::.Z::.Z::.Z::.Z::.Z::.Z::.Z::.Z::.Z::.Z::.Z::.Z::.Z::.Z::.Z::.Z::.Z::.Z::.Z::.Z::.Z::.Z::.Z::.Z::.Z::.Z::.Z::.Z::.Z::.Z::.Z::.Z::.Z::.Z::[],[]⟩) (fun e=>match e with|(.inl (v10,v11))=>(.ret,⟨.Z::.Z::.v (.int .i64 v10)::.v (.int .i64 v11)::.Z::.Z::.Z::.Z::.Z::.Z::.Z::.Z::.Z::.Z::.Z::.Z::.Z::.Z::.Z::.Z::.Z::.Z::.Z::.Z::.Z::.Z::.Z::.Z::.Z::.Z::.Z::.Z::.Z::.Z::.Z::.Z::.Z::.Z::.Z::.Z::.Z::.Z::[],[]⟩)|(.inr _)=>(.exit 0,⟨.Z::.Z::.Z::.Z::.Z::.Z::.Z::.Z::.Z::.Z::.Z::.Z::.Z::.Z::.Z::.Z::.Z::.Z::.Z::.Z::.Z::.Z::.Z::.Z::.Z::.Z::.Z::.Z::.Z::.Z::.Z::.Z::.Z::.Z::.Z::.Z::.Z::.Z::.Z::.Z::.Z::.Z::[],[]⟩)) ?_ ?_ ?_ ?_
     ·rintro v6 v0 hr
      dsimp only[bX] at hr
      try dsimp only
      refine wC T (g:=?_)
      rcases ifs hr with⟨h12,hr⟩|⟨h12,hr⟩
      ·have T:=an h12 T
       refine wA T (g:=?_)
       obtain⟨v12,h13,hr⟩:=bs hr
       have T:=an (gx e_f h13) T
       refine wA T (g:=?_)
       obtain⟨v13,h14,hr⟩:=bs hr
       apply TO.pop1 (wn T) (rN un82 un121 rfl h14)
       repeat exact sd T
       refine wa_ T (g:=?_)
       obtain⟨v14,h15,hr⟩:=bs hr
       apply TO.cal (wn T) rfl Wc (vD h15) rfl rfl rfl
       repeat exact sd T
       refine wa_ T (g:=?_)
       apply TO.pop1 (wn T) (fS rfl)
       repeat exact sd T
       refine wa_ T (g:=?_)
       rcases ifs hr with⟨h16,hr⟩|⟨h16,hr⟩
       ·have T:=an h16 T
        refine wa_ T (g:=?_)
        apply TO.pop1 (wn T) (jB rfl rfl (by decide))
        repeat exact sd T
        refine wa_ T (g:=?_)
        rcases ifs hr with⟨h17,hr⟩|⟨h17,hr⟩
        ·have T:=an h17 T
         refine wa_ T (g:=?_)
         cases hr
         refine⟨rfl,?_⟩
         exact wk_ T [] rfl .nil
        ·have T:=an h17 T
         refine wa_ T (g:=?_)
         apply TO.pop1 (wn T) (jB rfl rfl (by decide))
         repeat exact sd T
         refine wa_ T (g:=?_)
         rcases ifs hr with⟨h18,hr⟩|⟨h18,hr⟩
         ·have T:=an h18 T
          refine wa_ T (g:=?_)
          cases hr
          refine⟨rfl,?_⟩
          exact wk_ T [] rfl .nil
         ·have T:=an h18 T
          refine wa_ T (g:=?_)
          cases hr
          refine⟨rfl,?_⟩
          exact wk_ T [] rfl .nil
       ·have T:=an h16 T
        refine wa_ T (g:=?_)
        cases hr
        refine⟨rfl,?_⟩
        exact wk_ T [] rfl .nil
      ·have T:=an h12 T
       refine wa_ T (g:=?_)
       cases hr
       refine⟨rfl,?_⟩
       exact wk_ T [] rfl .nil
     ·intro e h;rcases e with _|e<;>cases h
     ·try dsimp only
      rcases v15 with⟨v16,v17⟩|_
      ·try dsimp only at hr
       try dsimp only
       refine wa_ T (g:=?_)
       cases hr
       refine⟨.inr rfl,_,(ry T),?_⟩
       exact wk_ T [] rfl .nil
      ·try dsimp only at hr
       try dsimp only
       refine wa_ T (g:=?_)
       cases hr
       refine⟨.inr rfl,_,(ry T),?_⟩
       exact wk_ T [] rfl .nil
     ·try dsimp only
      exact wk_ T [] rfl .nil
  ·have T:=an h2 T
   refine wa_ T (g:=?_)
   cases hr
   refine⟨.inr rfl,_,(ry T),?_⟩
   exact wk_ T [] rfl .nil
 rfl
end Go.Rex
namespace Go.Rex
open Go.Proofs
open Go Go.Rex Go.RowKit
set_option maxRecDepth 100000
set_option maxHeartbeats 200000
def y4:=an @ag24 <| an @ag3 <| an @cs24 <| an @pU <| an @Ev <| an @Bk <| @ok24
theorem tQ{v1:Int}{v2:(List Nat)}{v3:Int}{v4:Int}{v5:Int}{v6:Int}(hr:iZ v1 v2 v3 v4=some (v5,v6)):Spec (lim Tryz.prog) 58 [.agg [.v (.int .i64 v1),.list 1 (v2.map e_f),.v (.int .i64 v3),.v (.int .i64 v4)]] ⟨[.tuple [.v (.int .i64 v5),.v (.int .i64 v6)]],[]⟩:=by
 unfold iZ at hr
 have T:=an y4 <| @e_f.eq_1
 apply Spec.fn Tryz.func58 rfl
 focus (simp[Tryz.f58]<;>exact rfl)
 focus
  refine wB T (g:=?_)
  obtain⟨⟨v7,v8⟩,h1,hr⟩:=bs hr
  try dsimp only at hr
  apply TO.cal (wn T) rfl Sp (kS h1) rfl rfl rfl
  repeat exact sd T
  refine wa_ T (g:=?_)
  rcases ifs hr with⟨h2,hr⟩|⟨h2,hr⟩
  ·have T:=an h2 T
   refine wa_ T (g:=?_)
   cases hr
   refine⟨.inr rfl,_,(ry T),?_⟩
   exact wk_ T [] rfl .nil
  ·have T:=an h2 T
   refine wA T (g:=?_)
   obtain⟨v9,h3,hr⟩:=bs hr
   apply TO.cal (wn T) rfl xD (gF h3) rfl rfl rfl
   repeat exact sd T
   refine wa_ T (g:=?_)
   apply TO.pop1 (wn T) (fS rfl)
   repeat exact sd T
   refine wa_ T (g:=?_)
   rcases ifs hr with⟨h4,hr⟩|⟨h4,hr⟩
   ·have T:=an h4 T
    refine wA T (g:=?_)
    obtain⟨v10,h5,hr⟩:=bs hr
    apply TO.cal (wn T) rfl xD (gF h5) rfl rfl rfl
    repeat exact sd T
    refine wa_ T (g:=?_)
    apply TO.pop1 (wn T) (fS rfl)
    repeat exact sd T
    refine wa_ T (g:=?_)
    rcases ifs hr with⟨h6,hr⟩|⟨h6,hr⟩
    ·have T:=an h6 T
     refine wa_ T (g:=?_)
     cases hr
     refine⟨.inr rfl,_,(ry T),?_⟩
     exact wk_ T [] rfl .nil
    ·have T:=an h6 T
     refine wa_ T (g:=?_)
     cases hr
     refine⟨.inr rfl,_,(ry T),?_⟩
     exact wk_ T [] rfl .nil
   ·have T:=an h4 T
    refine wa_ T (g:=?_)
    cases hr
    refine⟨.inr rfl,_,(ry T),?_⟩
    exact wk_ T [] rfl .nil
 rfl
def y5:=an @ag26 <| an @cs26 <| @ok26
theorem uT{v1:Int}{v2:(List Nat)}{v3:Int}{v4:Int}{v5:Int}(hr:cT v1 v2 v3 v4=some (v5)):Spec (lim Tryz.prog) 19 [.agg [.v (.int .i64 v1),.list 1 (v2.map e_f),.v (.int .i64 v3),.v (.int .i64 v4)]] ⟨[.v (.int .i64 v5)],[]⟩:=by
 unfold cT at hr
 have T:=an y5 <| @e_f.eq_1
 apply Spec.fn Tryz.func19 rfl
 focus (simp[Tryz.f19]<;>exact rfl)
 focus
  refine wB T (g:=?_)
  obtain⟨⟨v6,v7⟩,h1,hr⟩:=bs hr
  try dsimp only at hr
  apply TO.cal (wn T) rfl Yl (tQ h1) rfl rfl rfl
  repeat exact sd T
  refine wa_ T (g:=?_)
  cases hr
  refine⟨.inr rfl,_,(ry T),?_⟩
  exact wr [] rfl .nil
 rfl
theorem tY{v1:Int}{v2:Int}(hr:fF v1=some (v2)):Spec (lim Tryz.prog) 27 [.v (.int .i64 v1)] ⟨[.v (.int .i64 v2)],[]⟩:=by
 unfold fF at hr
 have T:=trivial
 apply Spec.fn Tryz.func27 rfl
 focus (simp[Tryz.f27]<;>exact rfl)
 focus
  refine wa_ T (g:=?_)
  obtain⟨v3,h1,hr⟩:=bs hr
  apply TO.cal (wn T) rfl xD (gF h1) rfl rfl rfl
  repeat exact sd T
  refine wa_ T (g:=?_)
  apply TO.pop1 (wn T) (fS rfl)
  repeat exact sd T
  refine wa_ T (g:=?_)
  rcases ifs hr with⟨h2,hr⟩|⟨h2,hr⟩
  ·have T:=an h2 T
   refine wa_ T (g:=?_)
   cases hr
   refine⟨.inr rfl,_,(ry T),?_⟩
   exact wk_ T [] rfl .nil
  ·have T:=an h2 T
   refine wa_ T (g:=?_)
   cases hr
   refine⟨.inr rfl,_,(ry T),?_⟩
   exact wk_ T [] rfl .nil
 rfl
def y6:=an @ag22 <| an @ag24 <| an @ag3 <| an @by82 <| an @cs24 <| an @cs82 <| an @uN <| an @uM <| an @ni22 <| an @ok24 <| an @so22 <| an @st24 <| an @zc24 <| @zc82
theorem jF{v1:Int}{v2:(List Nat)}{v3:Int}{v4:(List Nat)}(hr:aF v1 v2=some (v3,v4)):Spec (lim Tryz.prog) 15 [.agg [.v (.int .i64 v1),.list 1 (v2.map e_f)]] ⟨[.agg [.v (.int .i64 v3),.lsl 0 0 v4.length]],[.rows 1 (v4.map e_f)]⟩:=by
 unfold aF at hr
 have T:=an y6 <| @e_f.eq_1
 apply Spec.fn Tryz.func15 rfl
 focus (simp[Tryz.f15]<;>exact rfl)
 focus
  repeat (first|(with_reducible first|refine mv ?_|refine m12 rfl ?_|refine TO.nil ?_)|((with_reducible first|apply TO.bf|apply TO.al);(repeat (focus (show _=_;first|exact k1 rfl|exact k2 rfl|(simp only[zz,y6,e_f,Nat.reduceAdd,Nat.reduceMul,Nat.reduceLeDiff,Nat.reduceEqDiff]<;>exact rfl)|exact rfl)));(with_reducible apply TO.here))|((with_reducible apply TX.region);(focus (simp only[zl]<;>exact rfl));(focus rfl);(try dsimp only))|with_reducible refine TD.nil ?_|((with_reducible first|apply TD.fa|apply TD.ld );(repeat (focus (show _=_;first|exact k1 rfl|exact k2 rfl|(simp only[zz,y6,e_f,Nat.reduceAdd,Nat.reduceMul,Nat.reduceLeDiff,Nat.reduceEqDiff,bS,tload,hG,fM,List.getElem?_map]<;>exact rfl)|exact rfl)));(with_reducible refine TD.here ?_))|((with_reducible apply TD.ldF);(focus decide +kernel);(repeat (focus (show _=_;first|exact k1 rfl|exact k2 rfl|(simp only[zz,y6,e_f,Nat.reduceAdd,Nat.reduceMul,Nat.reduceLeDiff,Nat.reduceEqDiff,bS,tload,hG,fM,List.getElem?_map]<;>exact rfl)|exact rfl)));(with_reducible refine TD.here ?_))|((with_reducible apply TX.drawn);(focus decide +kernel);(focus (simp only[zl]<;>exact rfl));(focus exact rfl);(try dsimp only))|fail)
  apply TD.bl e_f ([]:List Nat) (wn T) rfl (by simp only[zz,y6,e_f,Nat.reduceAdd,Nat.reduceMul,Nat.reduceLeDiff,Nat.reduceEqDiff,tslice,tparts];exact rfl) rfl rfl
  repeat exact sd T
  repeat (first|(with_reducible first|refine mv ?_|refine m12 rfl ?_|refine TD.nil ?_)|((with_reducible first|apply TD.fa|apply TD.ld );(repeat (focus (show _=_;first|exact k1 rfl|exact k2 rfl|(simp only[zz,y6,e_f,Nat.reduceAdd,Nat.reduceMul,Nat.reduceLeDiff,Nat.reduceEqDiff,bS,tload,hG,fM,List.getElem?_map]<;>exact rfl)|exact rfl)));(with_reducible refine TD.here ?_))|((with_reducible apply TD.ldF);(focus decide +kernel);(repeat (focus (show _=_;first|exact k1 rfl|exact k2 rfl|(simp only[zz,y6,e_f,Nat.reduceAdd,Nat.reduceMul,Nat.reduceLeDiff,Nat.reduceEqDiff,bS,tload,hG,fM,List.getElem?_map]<;>exact rfl)|exact rfl)));(with_reducible refine TD.here ?_))|((with_reducible apply TX.drawn);(focus decide +kernel);(focus (simp only[zl]<;>exact rfl));(focus exact rfl);(try dsimp only))|fail)
  obtain⟨v5,h1,hr⟩:=bs hr
  apply TD.apf (f:=e_f) (xs:=([]:List Nat)) (ys:=v2) (wn T) rfl rfl (by first|rfl|simp only[List.length_set]) rfl rfl so22 ni22 zc82 rfl (by rw[by82];exact h1) (fun _=>⟨rfl,rfl,rfl⟩) rfl
  repeat exact sd T
  refine wa_ T (g:=?_)
  cases hr
  refine⟨.inr rfl,_,(ry T),?_⟩
  exact wr [some 1] rfl (.rows .nil rfl rfl)
 rfl
def y7:=an @ag24 <| an @cs24 <| @ok24
theorem qY{v1:Int}{v2:(List Nat)}{v3:Int}(hr:bZ v1 v2=some (v3)):Spec (lim Tryz.prog) 18 [.agg [.v (.int .i64 v1),.list 1 (v2.map e_f)]] ⟨[.v (.int .i64 v3)],[]⟩:=by
 unfold bZ at hr
 have T:=an y7 <| @e_f.eq_1
 apply Spec.fn Tryz.func18 rfl
 focus (simp[Tryz.f18]<;>exact rfl)
 focus
  refine wB T (g:=?_)
  obtain⟨⟨v4,v5⟩,h1,hr⟩:=bs hr
  try dsimp only at hr
  apply TO.cal (wn T) rfl Sp (kS h1) rfl rfl rfl
  repeat exact sd T
  refine wa_ T (g:=?_)
  cases hr
  refine⟨.inr rfl,_,(ry T),?_⟩
  exact wr [] rfl .nil
 rfl
def y8:=an @ag24 <| an @ag26 <| an @cs24 <| an @cs26 <| an @ok24 <| an @ok26 <| an @st26 <| @zc26
theorem wJ{v1:Int}{v2:(List Nat)}{v3:Int}{v4:(List Nat)}(hr:fG v1 v2=some (v3,v4)):Spec (lim Tryz.prog) 52 [.agg [.v (.int .i64 v1),.list 1 (v2.map e_f)]] ⟨[.agg [.v (.int .i64 v3),.list 1 (v4.map e_f),.v (.int .i64 0),.v (.int .i64 0)]],[]⟩:=by
 unfold fG at hr
 have T:=an y8 <| @e_f.eq_1
 apply Spec.fn Tryz.func52 rfl
 focus (simp[Tryz.f52]<;>exact rfl)
 focus
  refine wB T (g:=?_)
  cases hr
  refine⟨.inr rfl,_,(ry T),?_⟩
  exact wr [] rfl .nil
 rfl
theorem bF{v1:Bool}{v2:Int}{v3:Int}(hr:aN v1 v2=some (v3)):Spec (lim Tryz.prog) 96 [.v (.bool v1),.v (.int .i64 v2)] ⟨[.v (.int .i64 v3)],[]⟩:=by
 unfold aN at hr
 have T:=trivial
 apply Spec.fn Tryz.func96 rfl
 focus (simp[Tryz.f96]<;>exact rfl)
 focus
  refine wa_ T (g:=?_)
  rcases ifs hr with⟨h1,hr⟩|⟨h1,hr⟩
  ·have T:=an h1 T
   refine wa_ T (g:=?_)
   cases hr
   refine⟨.inr rfl,_,(ry T),?_⟩
   exact wk_ T [] rfl .nil
  ·have T:=an h1 T
   refine wa_ T (g:=?_)
   cases hr
   refine⟨.inr rfl,_,(ry T),?_⟩
   exact wk_ T [] rfl .nil
 rfl
theorem fA{v1:Int}{v2:Int}{v3:Int}{v4:Int}(hr:cV v1 v2 v3=some (v4)):Spec (lim Tryz.prog) 63 [.v (.int .i64 v1),.v (.int .i64 v2),.v (.int .i64 v3)] ⟨[.v (.int .i64 v4)],[]⟩:=by
 unfold cV at hr
 have T:=trivial
 apply Spec.fn Tryz.func63 rfl
 focus (simp[Tryz.f63]<;>exact rfl)
 focus
  refine wa_ T (g:=?_)
  rcases ifs hr with⟨h1,hr⟩|⟨h1,hr⟩
  ·have T:=an h1 T
   refine wa_ T (g:=?_)
   obtain⟨v5,h2,hr⟩:=bs hr
   apply TO.cal (wn T) rfl lR (bF h2) rfl rfl rfl
   repeat exact sd T
   refine wa_ T (g:=?_)
   cases hr
   refine⟨.inr rfl,_,(ry T),?_⟩
   exact wk_ T [] rfl .nil
  ·have T:=an h1 T
   refine wa_ T (g:=?_)
   obtain⟨v6,h3,hr⟩:=bs hr
   apply TO.cal (wn T) rfl lR (bF h3) rfl rfl rfl
   repeat exact sd T
   refine wa_ T (g:=?_)
   cases hr
   refine⟨.inr rfl,_,(ry T),?_⟩
   exact wk_ T [] rfl .nil
 rfl
theorem rS{v1:Int}{v2:Int}(hr:iU v1=some (v2)):Spec (lim Tryz.prog) 154 [.v (.int .i64 v1)] ⟨[.v (.int .i64 v2)],[]⟩:=by
 unfold iU at hr
 have T:=trivial
 apply Spec.fn Tryz.func154 rfl
 focus (simp[Tryz.f154]<;>exact rfl)
 focus
  refine wa_ T (g:=?_)
  obtain⟨v3,h1,hr⟩:=bs hr
  apply TO.cal (wn T) rfl wZ (fA h1) rfl rfl rfl
  repeat exact sd T
  refine wa_ T (g:=?_)
  cases hr
  refine⟨.inr rfl,_,(ry T),?_⟩
  exact wr [] rfl .nil
 rfl
def y9:=an @ag31 <| an @cs31 <| an @ok31 <| an @so149 <| @nJ
theorem bG{v1:(List Int)}{v2:Int}(hr:aE v1=some (v2)):Spec (lim Tryz.prog) 54 [.list 1 (v1.map e_i)] ⟨[.v (.int .i64 v2)],[]⟩:=by
 unfold aE at hr
 have T:=an y9 <| @e_i.eq_1
 apply Spec.fn Tryz.func54 rfl
 focus (simp[Tryz.f54]<;>exact rfl)
 focus
  refine wc_ T (g:=?_)
  obtain⟨v7,h7,hr⟩:=bs hr
  refine TX.loopE (step:=dE v1) (x:=0) h7 (fun v3=>⟨.Z::.Z::.Z::.Z::.Z::.list 1 (v1.map e_i)::.v (.int .i64 (v1.length:Int))::.v (.int .i64 v3)::.Z::.Z::.Z::.Z::.Z::.Z::.Z::[],[]⟩) (fun e=>match e with|(.inl v5)=>(.ret,⟨.Z::.Z::.v (.int .i64 v5)::.Z::.Z::.Z::.Z::.Z::.Z::.Z::.Z::.Z::.Z::.Z::.Z::[],[]⟩)|(.inr _)=>(.exit 0,⟨.Z::.Z::.Z::.Z::.Z::.Z::.Z::.Z::.Z::.Z::.Z::.Z::.Z::.Z::.Z::[],[]⟩)) ?_ ?_ ?_ ?_
  ·rintro v3 v0 hr
   dsimp only[dE] at hr
   try dsimp only
   refine wa_ T (g:=?_)
   rcases ifs hr with⟨h4,hr⟩|⟨h4,hr⟩
   ·have T:=an h4 T
    refine wa_ T (g:=?_)
    obtain⟨v6,h5,hr⟩:=bs hr
    have T:=an (gx e_i h5) T
    refine wA T (g:=?_)
    rcases ifs hr with⟨h6,hr⟩|⟨h6,hr⟩
    ·have T:=an h6 T
     refine wa_ T (g:=?_)
     cases hr
     refine⟨rfl,?_⟩
     exact wk_ T [] rfl .nil
    ·have T:=an h6 T
     refine wa_ T (g:=?_)
     cases hr
     refine⟨rfl,?_⟩
     exact wk_ T [] rfl .nil
   ·have T:=an h4 T
    refine wa_ T (g:=?_)
    cases hr
    refine⟨rfl,?_⟩
    exact wk_ T [] rfl .nil
  ·intro e h;rcases e with _|e<;>cases h
  ·try dsimp only
   rcases v7 with v8|_
   ·try dsimp only at hr
    try dsimp only
    refine wa_ T (g:=?_)
    cases hr
    refine⟨.inr rfl,_,(ry T),?_⟩
    exact wr [] rfl .nil
   ·try dsimp only at hr
    try dsimp only
    refine wa_ T (g:=?_)
    cases hr
    refine⟨.inr rfl,_,(ry T),?_⟩
    exact wr [] rfl .nil
  ·try dsimp only
   exact wr [] rfl .nil
 rfl
def y10:=an @Qr <| @ex194
theorem yX{v1:Nat}{v2:Nat}(hr:mU v1=some (v2)):Spec (lim Tryz.prog) 185 [.v (.float .f64 v1)] ⟨[.v (.float .f64 v2)],[]⟩:=by
 unfold mU at hr
 have T:=y10
 apply Spec.fn Tryz.func185 rfl
 focus (simp[Tryz.f185]<;>exact rfl)
 focus
  refine wa_ T (g:=?_)
  obtain⟨v3,h1,hr⟩:=bs hr
  apply TO.tr (wn T) rfl ex194 Qr (by simp only[z1,z3,zl]<;>rfl) h1
  repeat exact sd T
  refine wa_ T (g:=?_)
  cases hr
  refine⟨.inr rfl,_,(ry T),?_⟩
  exact wr [] rfl .nil
 rfl
def y11:=an @ex200 <| @ex78
theorem Cp{v1:Nat}{v2:Nat}(hr:vQ v1=some (v2)):Spec (lim Tryz.prog) 196 [.v (.float .f64 v1)] ⟨[.v (.float .f64 v2)],[]⟩:=by
 unfold vQ at hr
 have T:=y11
 apply Spec.fn Tryz.func196 rfl
 focus (simp[Tryz.f196]<;>exact rfl)
 focus
  refine wa_ T (g:=?_)
  obtain⟨v3,h1,hr⟩:=bs hr
  apply TO.fb (wn T) rfl ex78 (by simp only[z1,z3,zl]<;>rfl) h1 rfl
  repeat exact sd T
  refine wa_ T (g:=?_)
  apply TO.pop1 (wn T) (oN rfl rfl (by decide))
  repeat exact sd T
  refine wa_ T (g:=?_)
  apply TO.ex (wn T) rfl ex200 (by simp only[z1,z3,zl];exact rfl) rfl rfl (rfl) rfl rfl rfl
  repeat exact sd T
  refine wa_ T (g:=?_)
  cases hr
  refine⟨.inr rfl,_,(ry T),?_⟩
  exact wr [] rfl .nil
 rfl
theorem yU{v1:Nat}{v2:Int}{v3:Bool}(hr:oM v1 v2=some (v3)):Spec (lim Tryz.prog) 186 [.v (.float .f64 v1),.v (.int .i64 v2)] ⟨[.v (.bool v3)],[]⟩:=by
 unfold oM at hr
 have T:=trivial
 apply Spec.fn Tryz.func186 rfl
 focus (simp[Tryz.f186]<;>exact rfl)
 focus
  refine wa_ T (g:=?_)
  rcases ifs hr with⟨h1,hr⟩|⟨h1,hr⟩
  ·have T:=an h1 T
   refine wa_ T (g:=?_)
   obtain⟨v4,h2,hr⟩:=bs hr
   apply TO.cal (wn T) rfl We (Cp h2) rfl rfl rfl
   repeat exact sd T
   refine wa_ T (g:=?_)
   apply TO.pop1 (wn T) (jB rfl rfl (by decide))
   repeat exact sd T
   refine wa_ T (g:=?_)
   cases hr
   refine⟨.inr rfl,_,(ry T),?_⟩
   exact wk_ T [] rfl .nil
  ·have T:=an h1 T
   refine wa_ T (g:=?_)
   rcases ifs hr with⟨h3,hr⟩|⟨h3,hr⟩
   ·have T:=an h3 T
    refine wa_ T (g:=?_)
    apply TO.pop1 (wn T) (Rn rfl)
    repeat exact sd T
    refine wa_ T (g:=?_)
    apply TO.pop1 (wn T) (jB rfl rfl (by decide))
    repeat exact sd T
    refine wa_ T (g:=?_)
    cases hr
    refine⟨.inr rfl,_,(ry T),?_⟩
    exact wk_ T [] rfl .nil
   ·have T:=an h3 T
    refine wa_ T (g:=?_)
    apply TO.pop1 (wn T) (jB rfl rfl (by decide))
    repeat exact sd T
    refine wa_ T (g:=?_)
    cases hr
    refine⟨.inr rfl,_,(ry T),?_⟩
    exact wk_ T [] rfl .nil
 rfl
def y12:=an @un121 <| @un82
theorem tL{v1:Nat}{v2:Bool}(hr:cU v1=some (v2)):Spec (lim Tryz.prog) 169 [.v (.float .f32 v1)] ⟨[.v (.bool v2)],[]⟩:=by
 unfold cU at hr
 have T:=y12
 apply Spec.fn Tryz.func169 rfl
 focus (simp[Tryz.f169]<;>exact rfl)
 focus
  refine wa_ T (g:=?_)
  obtain⟨v3,h1,hr⟩:=bs hr
  apply TO.pop1 (wn T) (rN un82 un121 rfl h1)
  repeat exact sd T
  refine wa_ T (g:=?_)
  obtain⟨v4,h2,hr⟩:=bs hr
  apply TO.cal (wn T) rfl Vp (yX h2) rfl rfl rfl
  repeat exact sd T
  refine wa_ T (g:=?_)
  apply TO.pop1 (wn T) (jB rfl rfl (by decide))
  repeat exact sd T
  refine wa_ T (g:=?_)
  rcases ifs hr with⟨h3,hr⟩|⟨h3,hr⟩
  ·have T:=an h3 T
   refine wa_ T (g:=?_)
   obtain⟨v5,h4,hr⟩:=bs hr
   apply TO.cal (wn T) rfl Va (yU h4) rfl rfl rfl
   repeat exact sd T
   refine wa_ T (g:=?_)
   apply TO.pop1 (wn T) (fS rfl)
   repeat exact sd T
   refine wa_ T (g:=?_)
   cases hr
   refine⟨.inr rfl,_,(ry T),?_⟩
   exact wk_ T [] rfl .nil
  ·have T:=an h3 T
   refine wa_ T (g:=?_)
   cases hr
   refine⟨.inr rfl,_,(ry T),?_⟩
   exact wk_ T [] rfl .nil
 rfl
def y13:=an @cs31 <| an @so149 <| @zc31
theorem qM{v1:Nat}{v2:Int}(hr:cG v1=some (v2)):Spec (lim Tryz.prog) 155 [.v (.float .f32 v1)] ⟨[.v (.int .i64 v2)],[]⟩:=by
 unfold cG at hr
 have T:=an y13 <| @e_i.eq_1
 apply Spec.fn Tryz.func155 rfl
 focus (simp[Tryz.f155]<;>exact rfl)
 focus
  refine wa_ T (g:=?_)
  obtain⟨v3,h1,hr⟩:=bs hr
  apply TO.cal (wn T) rfl Vq (tL h1) rfl rfl rfl
  repeat exact sd T
  refine wa_ T (g:=?_)
  apply TO.pop1 (wn T) (fS rfl)
  repeat exact sd T
  refine wa_ T (g:=?_)
  obtain⟨v4,h2,hr⟩:=bs hr
  apply TO.cal (wn T) rfl lR (bF h2) rfl rfl rfl
  repeat exact sd T
  refine wa_ T (g:=?_)
  apply TO.pop1 (wn T) (jB rfl rfl (by decide))
  repeat exact sd T
  refine wa_ T (g:=?_)
  rcases ifs hr with⟨h3,hr⟩|⟨h3,hr⟩
  ·have T:=an h3 T
   refine wa_ T (g:=?_)
   obtain⟨v5,h4,hr⟩:=bs hr
   apply TO.cal (wn T) rfl lR (bF h4) rfl rfl rfl
   repeat exact sd T
   refine wa_ T (g:=?_)
   apply TO.bm e_i ([v4,v5]:List Int) (wn T) rfl (by simp only[zz,y13,e_i,Nat.reduceAdd,Nat.reduceMul,Nat.reduceLeDiff,Nat.reduceEqDiff,tslice,tparts,h3];exact rfl) rfl
   repeat exact sd T
   refine wa_ T (g:=?_)
   obtain⟨v6,h5,hr⟩:=bs hr
   apply TO.cal (wn T) rfl oS (bG h5) rfl rfl rfl
   repeat exact sd T
   refine wa_ T (g:=?_)
   cases hr
   refine⟨.inr rfl,_,(ry T),?_⟩
   exact wk_ T [] rfl .nil
  ·have T:=an h3 T
   refine wa_ T (g:=?_)
   apply TO.pop1 (wn T) (jB rfl rfl (by decide))
   repeat exact sd T
   refine wa_ T (g:=?_)
   obtain⟨v7,h6,hr⟩:=bs hr
   apply TO.cal (wn T) rfl lR (bF h6) rfl rfl rfl
   repeat exact sd T
   refine wa_ T (g:=?_)
   apply TO.bm e_i ([v4,v7]:List Int) (wn T) rfl (by simp only[zz,y13,e_i,Nat.reduceAdd,Nat.reduceMul,Nat.reduceLeDiff,Nat.reduceEqDiff,tslice,tparts,h3];exact rfl) rfl
   repeat exact sd T
   refine wa_ T (g:=?_)
   obtain⟨v8,h7,hr⟩:=bs hr
   apply TO.cal (wn T) rfl oS (bG h7) rfl rfl rfl
   repeat exact sd T
   refine wa_ T (g:=?_)
   cases hr
   refine⟨.inr rfl,_,(ry T),?_⟩
   exact wk_ T [] rfl .nil
 rfl
end Go.Rex
namespace Go.Rex
open Go.Proofs
open Go Go.Rex Go.RowKit
set_option maxRecDepth 100000
set_option maxHeartbeats 1000000
def y14:=an @ag22 <| an @ag3 <| an @ag82 <| an @cs31 <| an @cs82 <| an @uN <| an @uM <| an @ok82 <| an @so149 <| an @so22 <| an @zc31 <| @nJ
theorem oX{v1:Int}{v2:(List Nat)}{v3:Int}{v4:Int}(hr:eM v1 v2=some (v3,v4)):Spec (lim Tryz.prog) 139 [.agg [.v (.int .i64 v1),.list 1 (v2.map e_f)]] ⟨[.tuple [.v (.int .i64 v3),.v (.int .i64 v4)]],[]⟩:=by
 unfold eM at hr
 have T:=an y14 <| an @e_f.eq_1 <| @e_i.eq_1
 apply Spec.fn Tryz.func139 rfl
 focus (simp[Tryz.f139]<;>exact rfl)
 focus
  refine wB T (g:=?_)
  obtain⟨v5,h1,hr⟩:=bs hr
  apply TD.cal (wn T) rfl Vz (rS h1) rfl rfl rfl
  repeat exact sd T
  refine wC T (g:=?_)
  obtain⟨v6,h2,hr⟩:=bs hr
  apply TD.cal (wn T) rfl lR (bF h2) rfl rfl rfl
  repeat exact sd T
  refine wC T (g:=?_)
  obtain⟨v7,h3,hr⟩:=bs hr
  apply TD.cal (wn T) rfl lR (bF h3) rfl rfl rfl
  repeat exact sd T
  refine wa_ T (g:=?_)
  apply TD.bm e_i ([v5,v6,v7]:List Int) (wn T) rfl (by simp only[zz,y14,e_f,e_i,Nat.reduceAdd,Nat.reduceMul,Nat.reduceLeDiff,Nat.reduceEqDiff,tslice,tparts];exact rfl) rfl
  repeat exact sd T
  refine wa_ T (g:=?_)
  obtain⟨v8,h4,hr⟩:=bs hr
  apply TD.cal (wn T) rfl oS (bG h4) rfl rfl rfl
  repeat exact sd T
  refine wa_ T (g:=?_)
  rcases ifs hr with⟨h5,hr⟩|⟨h5,hr⟩
  ·have T:=an h5 T
   refine wa_ T (g:=?_)
   cases hr
   refine⟨.inr rfl,_,(ry T),?_⟩
   exact wk_ T [] rfl .nil
  ·have T:=an h5 T
   refine wC T (g:=?_)
   obtain⟨v16,h14,hr⟩:=bs hr
   refine TX.loopE (step:=bP v2) (x:=0) h14 (fun v9=>⟨.Z::.Z::.Z::.Z::.Z::.Z::.Z::.Z::.Z::.Z::.Z::.Z::.Z::.Z::.Z::.Z::.Z::.Z::.Z::.Z::.Z::.Z::.Z::.Z::.Z::.Z::.Z::.list 1 (v2.map e_f)::.v (.int .i64 (v2.length:Int))::.v (.int .i64 v9)::.Z::.Z::.Z::.Z::.Z::.Z::.Z::.Z::.Z::.Z::.Z::[],[]⟩) (fun e=>match e with|(.inl (v12,v13))=>(.ret,⟨.Z::.Z::.v (.int .i64 v12)::.v (.int .i64 v13)::.Z::.Z::.Z::.Z::.Z::.Z::.Z::.Z::.Z::.Z::.Z::.Z::.Z::.Z::.Z::.Z::.Z::.Z::.Z::.Z::.Z::.Z::.Z::.Z::.Z::.Z::.Z::.Z::.Z::.Z::.Z::.Z::.Z::.Z::.Z::.Z::.Z::[],[]⟩)|(.inr _)=>(.exit 0,⟨.Z::.Z::.Z::.Z::.Z::.Z::.Z::.Z::.Z::.Z::.Z::.Z::.Z::.Z::.Z::.Z::.Z::.Z::.Z::.Z::.Z::.Z::.Z::.Z::.Z::.Z::.Z::.Z::.Z::.Z::.Z::.Z::.Z::.Z::.Z::.Z::.Z::.Z::.Z::.Z::.Z::[],[]⟩)) ?_ ?_ ?_ ?_
   ·rintro v9 v0 hr
    dsimp only[bP] at hr
    try dsimp only
    refine wa_ T (g:=?_)
    rcases ifs hr with⟨h10,hr⟩|⟨h10,hr⟩
    ·have T:=an h10 T
     refine wa_ T (g:=?_)
     obtain⟨v14,h11,hr⟩:=bs hr
     have T:=an (gx e_f h11) T
     refine wA T (g:=?_)
     obtain⟨v15,h12,hr⟩:=bs hr
     apply TO.cal (wn T) rfl Vu (qM h12) rfl rfl rfl
     repeat exact sd T
     refine wa_ T (g:=?_)
     rcases ifs hr with⟨h13,hr⟩|⟨h13,hr⟩
     ·have T:=an h13 T
      refine wa_ T (g:=?_)
      cases hr
      refine⟨rfl,?_⟩
      exact wk_ T [] rfl .nil
     ·have T:=an h13 T
      refine wa_ T (g:=?_)
      cases hr
      refine⟨rfl,?_⟩
      exact wk_ T [] rfl .nil
    ·have T:=an h10 T
     refine wa_ T (g:=?_)
     cases hr
     refine⟨rfl,?_⟩
     exact wk_ T [] rfl .nil
   ·intro e h;rcases e with _|e<;>cases h
   ·try dsimp only
    rcases v16 with⟨v17,v18⟩|_
    ·try dsimp only at hr
     try dsimp only
     refine wa_ T (g:=?_)
     cases hr
     refine⟨.inr rfl,_,(ry T),?_⟩
     exact wk_ T [] rfl .nil
    ·try dsimp only at hr
     try dsimp only
     refine wa_ T (g:=?_)
     cases hr
     refine⟨.inr rfl,_,(ry T),?_⟩
     exact wk_ T [] rfl .nil
   ·try dsimp only
    exact wk_ T [] rfl .nil
 rfl
end Go.Rex
namespace Go.Rex
open Go.Proofs
open Go Go.Rex Go.RowKit
set_option maxRecDepth 100000
set_option maxHeartbeats 200000
def y15:=an @ag24 <| an @ag3 <| an @cs24 <| an @cs31 <| an @pU <| an @Ev <| an @Bk <| an @ok24 <| an @so149 <| @zc31
theorem sF{v1:Int}{v2:(List Nat)}{v3:Int}{v4:Int}{v5:Int}{v6:Int}(hr:gY v1 v2 v3 v4=some (v5,v6)):Spec (lim Tryz.prog) 95 [.agg [.v (.int .i64 v1),.list 1 (v2.map e_f),.v (.int .i64 v3),.v (.int .i64 v4)]] ⟨[.tuple [.v (.int .i64 v5),.v (.int .i64 v6)]],[]⟩:=by
 unfold gY at hr
 have T:=an y15 <| an @e_f.eq_1 <| @e_i.eq_1
 apply Spec.fn Tryz.func95 rfl
 focus (simp[Tryz.f95]<;>exact rfl)
 focus
  refine wB T (g:=?_)
  obtain⟨⟨v7,v8⟩,h1,hr⟩:=bs hr
  try dsimp only at hr
  apply TO.cal (wn T) rfl Wx (oX h1) rfl rfl rfl
  repeat exact sd T
  refine wa_ T (g:=?_)
  rcases ifs hr with⟨h2,hr⟩|⟨h2,hr⟩
  ·have T:=an h2 T
   refine wa_ T (g:=?_)
   cases hr
   refine⟨.inr rfl,_,(ry T),?_⟩
   exact wk_ T [] rfl .nil
  ·have T:=an h2 T
   refine wA T (g:=?_)
   obtain⟨v9,h3,hr⟩:=bs hr
   apply TD.cal (wn T) rfl wZ (fA h3) rfl rfl rfl
   repeat exact sd T
   refine wA T (g:=?_)
   obtain⟨v10,h4,hr⟩:=bs hr
   apply TD.cal (wn T) rfl wZ (fA h4) rfl rfl rfl
   repeat exact sd T
   refine wa_ T (g:=?_)
   apply TD.bm e_i ([v9,v10]:List Int) (wn T) rfl (by simp only[zz,y15,e_f,e_i,Nat.reduceAdd,Nat.reduceMul,Nat.reduceLeDiff,Nat.reduceEqDiff,tslice,tparts,h2];exact rfl) rfl
   repeat exact sd T
   refine wa_ T (g:=?_)
   obtain⟨v11,h5,hr⟩:=bs hr
   apply TD.cal (wn T) rfl oS (bG h5) rfl rfl rfl
   repeat exact sd T
   refine wa_ T (g:=?_)
   cases hr
   refine⟨.inr rfl,_,(ry T),?_⟩
   exact wk_ T [] rfl .nil
 rfl
def y16:=an @ag26 <| an @ag94 <| an @cs26 <| an @cs94 <| an @ok26 <| an @ok94 <| an @st94 <| @zc94
theorem kK{v1:Int}{v2:(List Nat)}{v3:Int}{v4:Int}{v5:Int}{v6:(List Nat)}{v7:Int}{v8:Int}{v9:Int}(hr:dQ v1 v2 v3 v4=some (v5,v6,v7,v8,v9)):Spec (lim Tryz.prog) 53 [.agg [.v (.int .i64 v1),.list 1 (v2.map e_f),.v (.int .i64 v3),.v (.int .i64 v4)]] ⟨[.tuple [.agg [.v (.int .i64 v5),.list 1 (v6.map e_f),.v (.int .i64 v7),.v (.int .i64 v8)],.v (.int .i64 v9)]],[]⟩:=by
 unfold dQ at hr
 have T:=an y16 <| @e_f.eq_1
 apply Spec.fn Tryz.func53 rfl
 focus (simp[Tryz.f53]<;>exact rfl)
 focus
  refine wB T (g:=?_)
  obtain⟨⟨v10,v11⟩,h1,hr⟩:=bs hr
  try dsimp only at hr
  apply TO.cal (wn T) rfl Xp (sF h1) rfl rfl rfl
  repeat exact sd T
  refine wA T (g:=?_)
  cases hr
  refine⟨.inr rfl,_,(ry T),?_⟩
  exact wr [] rfl .nil
 rfl
theorem rT{v1:Int}{v2:Int}(hr:iT v1=some (v2)):Spec (lim Tryz.prog) 55 [.v (.int .i64 v1)] ⟨[.v (.int .i64 v2)],[]⟩:=by
 unfold iT at hr
 have T:=trivial
 apply Spec.fn Tryz.func55 rfl
 focus (simp[Tryz.f55]<;>exact rfl)
 focus
  refine wa_ T (g:=?_)
  rcases ifs hr with⟨h1,hr⟩|⟨h1,hr⟩
  ·have T:=an h1 T
   refine wa_ T (g:=?_)
   obtain⟨v3,h2,hr⟩:=bs hr
   apply TO.cal (wn T) rfl lR (bF h2) rfl rfl rfl
   repeat exact sd T
   refine wa_ T (g:=?_)
   cases hr
   refine⟨.inr rfl,_,(ry T),?_⟩
   exact wk_ T [] rfl .nil
  ·have T:=an h1 T
   refine wa_ T (g:=?_)
   obtain⟨v4,h3,hr⟩:=bs hr
   apply TO.cal (wn T) rfl lR (bF h3) rfl rfl rfl
   repeat exact sd T
   refine wa_ T (g:=?_)
   cases hr
   refine⟨.inr rfl,_,(ry T),?_⟩
   exact wk_ T [] rfl .nil
 rfl
def y17:=an @ag22 <| an @uM <| an @pU <| an @uA <| @so22
theorem cB{v1:Int}{v2:(List Nat)}{v3:Int}{v4:Int}{v5:Int}(hr:aM v1 v2 v3 v4=some (v5)):Spec (lim Tryz.prog) 113 [.agg [.v (.int .i64 v1),.list 1 (v2.map e_f),.v (.int .i64 v3),.v (.int .i64 v4)]] ⟨[.v (.int .i64 v5)],[]⟩:=by
 unfold aM at hr
 have T:=an y17 <| @e_f.eq_1
 apply Spec.fn Tryz.func113 rfl
 focus (simp[Tryz.f113]<;>exact rfl)
 focus
  refine wD T (g:=?_)
  cases hr
  refine⟨.inr rfl,_,(ry T),?_⟩
  exact wr [] rfl .nil
 rfl
def y18:=an @ag100 <| an @cs100 <| an @ok100 <| an @st100 <| an @st30 <| an @zc100 <| @zc30
theorem bB{v1:Int}{v2:Int}{v3:Int}{v4:Int}(hr:aG v1 v2=some (v3,v4)):Spec (lim Tryz.prog) 114 [.v (.int .i64 v1),.v (.int .i64 v2)] ⟨[.agg [.v (.int .i64 v3),.v (.int .i64 v4)]],[]⟩:=by
 unfold aG at hr
 have T:=y18
 apply Spec.fn Tryz.func114 rfl
 focus (simp[Tryz.f114]<;>exact rfl)
 focus
  refine wa_ T (g:=?_)
  cases hr
  refine⟨.inr rfl,_,(ry T),?_⟩
  exact wr [] rfl .nil
 rfl
def y19:=an @ag100 <| an @ag3 <| an @cs100 <| an @Bk <| an @uA <| an @ok100 <| @zc100
theorem pZ{v1:Int}{v2:(List Nat)}{v3:Int}{v4:Int}{v5:Int}{v6:Int}(hr:fZ v1 v2 v3 v4=some (v5,v6)):Spec (lim Tryz.prog) 136 [.agg [.v (.int .i64 v1),.list 1 (v2.map e_f),.v (.int .i64 v3),.v (.int .i64 v4)]] ⟨[.agg [.v (.int .i64 v5),.v (.int .i64 v6)]],[]⟩:=by
 unfold fZ at hr
 have T:=an y19 <| @e_f.eq_1
 apply Spec.fn Tryz.func136 rfl
 focus (simp[Tryz.f136]<;>exact rfl)
 focus
  refine wB T (g:=?_)
  obtain⟨⟨v7,v8⟩,h1,hr⟩:=bs hr
  try dsimp only at hr
  apply TO.cal (wn T) rfl jW (bB h1) rfl rfl rfl
  repeat exact sd T
  refine wa_ T (g:=?_)
  cases hr
  refine⟨.inr rfl,_,(ry T),?_⟩
  exact wr [] rfl .nil
 rfl
def y20:=an @ag100 <| an @ag22 <| an @ag3 <| an @ag82 <| an @cs100 <| an @cs82 <| an @uM <| an @pU <| an @Ev <| an @uA <| an @ok100 <| an @ok82 <| an @so22 <| an @un3 <| an @un82 <| @zc100
theorem iM{v1:Int}{v2:(List Nat)}{v3:Int}{v4:Int}{v5:Int}{v6:Int}{v7:Int}(hr:dJ v1 v2 v3 v4 v5=some (v6,v7)):Spec (lim Tryz.prog) 121 [.agg [.v (.int .i64 v1),.list 1 (v2.map e_f),.v (.int .i64 v3),.v (.int .i64 v4)],.v (.int .i64 v5)] ⟨[.agg [.v (.int .i64 v6),.v (.int .i64 v7)]],[]⟩:=by
 unfold dJ at hr
 have T:=an y20 <| @e_f.eq_1
 apply Spec.fn Tryz.func121 rfl
 focus (simp[Tryz.f121]<;>exact rfl)
 focus
  refine wB T (g:=?_)
  obtain⟨v8,h1,hr⟩:=bs hr
  have T:=an (gx e_f h1) T
  refine wA T (g:=?_)
  obtain⟨v9,h2,hr⟩:=bs hr
  apply TO.pop1 (wn T) (tU un82 un3 rfl h2)
  repeat exact sd T
  refine wa_ T (g:=?_)
  apply TO.pop1 (wn T) (zT rfl)
  repeat exact sd T
  refine wa_ T (g:=?_)
  apply TO.pop1 (wn T) (oC rfl rfl)
  repeat exact sd T
  refine wA T (g:=?_)
  apply TD.pop1 (wn T) (oC rfl rfl)
  repeat exact sd T
  refine wA T (g:=?_)
  obtain⟨⟨v10,v11⟩,h3,hr⟩:=bs hr
  try dsimp only at hr
  apply TO.cal (wn T) rfl jW (bB h3) rfl rfl rfl
  repeat exact sd T
  refine wa_ T (g:=?_)
  cases hr
  refine⟨.inr rfl,_,(ry T),?_⟩
  exact wr [] rfl .nil
 rfl
def y21:=an @ag100 <| an @ag3 <| an @cs100 <| an @iK <| an @mQ <| an @mW <| an @ok100 <| @zc100
theorem jU{v1:Int}{v2:Int}{v3:Int}{v4:Int}{v5:Int}{v6:Int}(hr:eJ v1 v2 v3 v4=some (v5,v6)):Spec (lim Tryz.prog) 137 [.agg [.v (.int .i64 v1),.v (.int .i64 v2)],.agg [.v (.int .i64 v3),.v (.int .i64 v4)]] ⟨[.agg [.v (.int .i64 v5),.v (.int .i64 v6)]],[]⟩:=by
 unfold eJ at hr
 have T:=y21
 apply Spec.fn Tryz.func137 rfl
 focus (simp[Tryz.f137]<;>exact rfl)
 focus
  refine wB T (g:=?_)
  obtain⟨⟨v7,v8⟩,h1,hr⟩:=bs hr
  try dsimp only at hr
  apply TO.cal (wn T) rfl jW (bB h1) rfl rfl rfl
  repeat exact sd T
  refine wa_ T (g:=?_)
  cases hr
  refine⟨.inr rfl,_,(ry T),?_⟩
  exact wr [] rfl .nil
 rfl
end Go.Rex
namespace Go.Rex
open Go.Proofs
open Go Go.Rex Go.RowKit
set_option maxRecDepth 100000
set_option maxHeartbeats 1000000
def y22:=an @ag100 <| an @ag94 <| an @by100 <| an @cs100 <| an @cs94 <| an @ok100 <| an @ok94 <| an @so141 <| @zc100
theorem jH{v1:Int}{v2:(List Nat)}{v3:Int}{v4:Int}{v5:(List (Int×Int))}(hr:cY v1 v2 v3 v4=some (v5)):Spec (lim Tryz.prog) 90 [.agg [.v (.int .i64 v1),.list 1 (v2.map e_f),.v (.int .i64 v3),.v (.int .i64 v4)]] ⟨[.lsl 0 0 v5.length],[.rows 2 (v5.map e_ii)]⟩:=by
 unfold cY at hr
 have T:=an y22 <| an @e_f.eq_1 <| @e_ii.eq_1
 apply Spec.fn Tryz.func90 rfl
 focus (simp[Tryz.f90]<;>exact rfl)
 focus
  refine wB T (g:=?_)
  obtain⟨v6,h1,hr⟩:=bs hr
  apply TO.cal (wn T) rfl pG (cB h1) rfl rfl rfl
  repeat exact sd T
  refine wa_ T (g:=?_)
  obtain⟨v7,h2,hr⟩:=bs hr
  apply TO.mk e_ii h2 (wn T) rfl rfl so141 zc100 by100 rfl rfl rfl
  repeat exact sd T
  refine wA T (g:=?_)
  obtain⟨v8,h3,hr⟩:=bs hr
  apply TD.cal (wn T) rfl pG (cB h3) rfl rfl rfl
  repeat exact sd T
  refine wA T (g:=?_)
  obtain⟨⟨v9,v10⟩,h4,hr⟩:=bs hr
  try dsimp only at hr
  apply TD.cal (wn T) rfl Vo (pZ h4) rfl rfl rfl
  repeat exact sd T
  refine wa_ T (g:=?_)
  obtain⟨⟨v11,v12⟩,h5,hr⟩:=bs hr
  try dsimp only at hr
  have h5m:=qF (f:=e_ii) h5
  have h5l:=nA h5
  try simp only[List.length_set] at h5l
  have h5a:=pR h5
  have T:=an h5m T
  have T:=an h5l T
  have T:=an h5a T
  refine wa_ T (g:=?_)
  apply TD.sr e_ii v7 (v11,v12) (v9,v10) h5a (wn T) rfl rfl rfl rfl rfl ok100 (by rw[cs100];rfl) rfl rfl rfl rfl rfl
  repeat exact sd T
  refine wA T (g:=?_)
  obtain⟨v13,h6,hr⟩:=bs hr
  apply TO.cal (wn T) rfl pG (cB h6) rfl rfl rfl
  repeat exact sd T
  refine wa_ T (g:=?_)
  obtain⟨v33,h17,hr⟩:=bs hr
  refine TX.loopE (step:=eE v1 v2 v3 v4) (x:=((v7.set v8.toNat (v9,v10)),(IntKind.i64.wrap (v13-1)))) h17 (fun (v14,v15)=>⟨.Z::.fptr true [.v (.int .i64 v1),.list 1 (v2.map e_f),.v (.int .i64 v3),.v (.int .i64 v4)] 0::.Z::.lsl 0 0 v14.length::.v (.int .i64 v15)::.Z::.Z::.Z::.Z::.Z::.Z::.Z::.Z::.Z::.Z::.Z::.Z::.Z::.Z::.Z::.Z::.Z::.Z::.Z::.Z::.Z::.Z::.Z::.Z::.Z::.Z::.Z::.Z::.Z::.Z::[],[.rows 2 (v14.map e_ii)]⟩) (fun v24=>(.exit 0,⟨.Z::.Z::.Z::.lsl 0 0 v24.length::.Z::.Z::.Z::.Z::.Z::.Z::.Z::.Z::.Z::.Z::.Z::.Z::.Z::.Z::.Z::.Z::.Z::.Z::.Z::.Z::.Z::.Z::.Z::.Z::.Z::.Z::.Z::.Z::.Z::.Z::.Z::[],[.rows 2 (v24.map e_ii)]⟩)) ?_ ?_ ?_ ?_
  ·rintro⟨v14,v15⟩ v0 hr
   dsimp only[eE] at hr
   try dsimp only
   refine wa_ T (g:=?_)
   rcases ifs hr with⟨h12,hr⟩|⟨h12,hr⟩
   ·have T:=an h12 T
    refine wa_ T (g:=?_)
    obtain⟨⟨v25,v26⟩,h13,hr⟩:=bs hr
    try dsimp only at hr
    have h13m:=qF (f:=e_ii) h13
    have h13l:=nA h13
    try simp only[List.length_set] at h13l
    have h13a:=pR h13
    have T:=an h13m T
    have T:=an h13l T
    have T:=an h13a T
    refine wA T (g:=?_)
    obtain⟨⟨v27,v28⟩,h14,hr⟩:=bs hr
    try dsimp only at hr
    apply TD.cal (wn T) rfl En (iM h14) rfl rfl rfl
    repeat exact sd T
    refine wa_ T (g:=?_)
    obtain⟨⟨v29,v30⟩,h15,hr⟩:=bs hr
    try dsimp only at hr
    apply TD.cal (wn T) rfl Eu (jU h15) rfl rfl rfl
    repeat exact sd T
    refine wa_ T (g:=?_)
    obtain⟨⟨v31,v32⟩,h16,hr⟩:=bs hr
    try dsimp only at hr
    have h16m:=qF (f:=e_ii) h16
    have h16l:=nA h16
    try simp only[List.length_set] at h16l
    have h16a:=pR h16
    have T:=an h16m T
    have T:=an h16l T
    have T:=an h16a T
    refine wa_ T (g:=?_)
    apply TD.sr e_ii v14 (v31,v32) (v29,v30) h16a (wn T) rfl rfl rfl rfl rfl ok100 (by rw[cs100];rfl) rfl rfl rfl rfl rfl
    repeat exact sd T
    refine wa_ T (g:=?_)
    cases hr
    refine⟨rfl,?_⟩
    exact wk_ T [some 0] rfl (.rows .nil rfl rfl)
   ·have T:=an h12 T
    refine wa_ T (g:=?_)
    cases hr
    refine⟨rfl,?_⟩
    exact wk_ T [some 0] rfl (.rows .nil rfl rfl)
  ·intro e h;cases h
  ·try dsimp only
   refine wa_ T (g:=?_)
   cases hr
   refine⟨.inr rfl,_,(ry T),?_⟩
   exact wr [some 0] rfl (.rows .nil rfl rfl)
  ·try dsimp only
   exact wr [some 0] rfl (.rows .nil rfl rfl)
 rfl
end Go.Rex
namespace Go.Rex
open Go.Proofs
open Go Go.Rex Go.RowKit
set_option maxRecDepth 100000
set_option maxHeartbeats 200000
def y23:=an @ag100 <| an @ag94 <| an @cs100 <| an @cs94 <| an @ok100 <| an @ok94 <| an @so141 <| @zc100
theorem mD{v1:Int}{v2:(List Nat)}{v3:Int}{v4:Int}{v5:Int}{v6:Int}(hr:eZ v1 v2 v3 v4=some (v5,v6)):Spec (lim Tryz.prog) 73 [.agg [.v (.int .i64 v1),.list 1 (v2.map e_f),.v (.int .i64 v3),.v (.int .i64 v4)]] ⟨[.agg [.v (.int .i64 v5),.v (.int .i64 v6)]],[]⟩:=by
 unfold eZ at hr
 have T:=an y23 <| an @e_f.eq_1 <| @e_ii.eq_1
 apply Spec.fn Tryz.func73 rfl
 focus (simp[Tryz.f73]<;>exact rfl)
 focus
  refine wB T (g:=?_)
  obtain⟨v7,h1,hr⟩:=bs hr
  apply TO.cal (wn T) rfl Lj (jH h1) rfl rfl rfl
  repeat exact sd T
  refine wa_ T (g:=?_)
  obtain⟨⟨v8,v9⟩,h2,hr⟩:=bs hr
  try dsimp only at hr
  have T:=an (gx e_ii h2) T
  refine wA T (g:=?_)
  cases hr
  refine⟨.inr rfl,_,(ry T),?_⟩
  exact wr [] rfl .nil
 rfl
def y24:=an @nJ <| @Pi
theorem fQ{v1:Int}{v2:Int}(hr:dX v1=some (v2)):Spec (lim Tryz.prog) 138 [.v (.int .i64 v1)] ⟨[.v (.int .i64 v2)],[]⟩:=by
 unfold dX at hr
 have T:=y24
 apply Spec.fn Tryz.func138 rfl
 focus (simp[Tryz.f138]<;>exact rfl)
 focus
  refine wa_ T (g:=?_)
  obtain⟨v6,h3,hr⟩:=bs hr
  refine TX.loopE (step:=dY v1) (x:=(1,0)) h3 (fun (v3,v4)=>⟨[.Z,.Z,.Z,.v (.int .i64 v3),.v (.int .i64 v1),.v (.int .i64 v4),.Z,.Z,.Z,.Z,.Z],[]⟩) (fun v5=>(.exit 0,⟨[.Z,.Z,.Z,.v (.int .i64 v5),.Z,.Z,.Z,.Z,.Z,.Z,.Z],[]⟩)) ?_ ?_ ?_ ?_
  ·rintro⟨v3,v4⟩ v0 hr
   dsimp only[dY] at hr
   try dsimp only
   refine wa_ T (g:=?_)
   rcases ifs hr with⟨h2,hr⟩|⟨h2,hr⟩
   ·have T:=an h2 T
    refine wa_ T (g:=?_)
    cases hr
    refine⟨rfl,?_⟩
    exact wk_ T [] rfl .nil
   ·have T:=an h2 T
    refine wa_ T (g:=?_)
    cases hr
    refine⟨rfl,?_⟩
    exact wk_ T [] rfl .nil
  ·intro e h;cases h
  ·try dsimp only
   refine wa_ T (g:=?_)
   cases hr
   refine⟨.inr rfl,_,(ry T),?_⟩
   exact wr [] rfl .nil
  ·try dsimp only
   exact wr [] rfl .nil
 rfl
theorem sA{v1:Int}{v2:Int}{v3:Int}{v4:Int}(hr:fW v1 v2=some (v3,v4)):Spec (lim Tryz.prog) 143 [.v (.int .u64 v1),.v (.int .u64 v2)] ⟨[.tuple [.v (.int .u64 v3),.v (.int .u64 v4)]],[]⟩:=by
 unfold fW at hr
 have T:=trivial
 apply Spec.fn Tryz.func143 rfl
 focus (simp[Tryz.f143]<;>exact rfl)
 focus
  refine wa_ T (g:=?_)
  apply TO.pop1 (wn T) (oN rfl rfl (by decide))
  repeat exact sd T
  refine wa_ T (g:=?_)
  obtain⟨v5,h1,hr⟩:=bs hr
  apply TO.pop1 (wn T) (dF rfl rfl (by decide) (h1))
  repeat exact sd T
  refine wa_ T (g:=?_)
  apply TO.pop1 (wn T) (oN rfl rfl (by decide))
  repeat exact sd T
  refine wa_ T (g:=?_)
  obtain⟨v6,h2,hr⟩:=bs hr
  apply TO.pop1 (wn T) (dF rfl rfl (by decide) (h2))
  repeat exact sd T
  refine wa_ T (g:=?_)
  obtain⟨v7,h3,hr⟩:=bs hr
  apply TO.pop1 (wn T) (dF rfl rfl (by decide) (h3))
  repeat exact sd T
  refine wa_ T (g:=?_)
  apply TO.pop1 (wn T) (oN rfl rfl (by decide))
  repeat exact sd T
  refine wa_ T (g:=?_)
  obtain⟨v8,h4,hr⟩:=bs hr
  apply TO.pop1 (wn T) (dF rfl rfl (by decide) (h4))
  repeat exact sd T
  refine wa_ T (g:=?_)
  obtain⟨v9,h5,hr⟩:=bs hr
  apply TO.pop1 (wn T) (dF rfl rfl (by decide) (h5))
  repeat exact sd T
  refine wa_ T (g:=?_)
  cases hr
  refine⟨.inr rfl,_,(ry T),?_⟩
  exact wr [] rfl .nil
 rfl
def y25:=an @ag162 <| an @cs162 <| an @ok162 <| an @st162 <| an @un122 <| an @un3 <| @zc162
theorem cW{v1:Int}{v2:Int}{v3:Int}{v4:Int}(hr:bJ v1 v2=some (v3,v4)):Spec (lim Tryz.prog) 106 [.v (.int .i64 v1),.v (.int .i64 v2)] ⟨[.agg [.v (.int .u64 v3),.v (.int .u64 v4)]],[]⟩:=by
 unfold bJ at hr
 have T:=y25
 apply Spec.fn Tryz.func106 rfl
 focus (simp[Tryz.f106]<;>exact rfl)
 focus
  refine wa_ T (g:=?_)
  apply TO.pop1 (wn T) (bT un3 un122 rfl)
  repeat exact sd T
  refine wa_ T (g:=?_)
  apply TO.pop1 (wn T) (bT un3 un122 rfl)
  repeat exact sd T
  refine wa_ T (g:=?_)
  obtain⟨⟨v5,v6⟩,h1,hr⟩:=bs hr
  try dsimp only at hr
  apply TO.cal (wn T) rfl Wz (sA h1) rfl rfl rfl
  repeat exact sd T
  refine wa_ T (g:=?_)
  cases hr
  refine⟨.inr rfl,_,(ry T),?_⟩
  exact wr [] rfl .nil
 rfl
def y26:=an @ag122 <| an @Mx <| @Nx
theorem gR{v1:Int}{v2:Int}{v3:Int}{v4:Int}{v5:Bool}(hr:dD v1 v2 v3 v4=some (v5)):Spec (lim Tryz.prog) 107 [.agg [.v (.int .u64 v1),.v (.int .u64 v2)],.agg [.v (.int .u64 v3),.v (.int .u64 v4)]] ⟨[.v (.bool v5)],[]⟩:=by
 unfold dD at hr
 have T:=y26
 apply Spec.fn Tryz.func107 rfl
 focus (simp[Tryz.f107]<;>exact rfl)
 focus
  refine wB T (g:=?_)
  rcases ifs hr with⟨h1,hr⟩|⟨h1,hr⟩
  ·have T:=an h1 T
   refine wa_ T (g:=?_)
   cases hr
   refine⟨.inr rfl,_,(ry T),?_⟩
   exact wk_ T [] rfl .nil
  ·have T:=an h1 T
   refine wA T (g:=?_)
   rcases ifs hr with⟨h2,hr⟩|⟨h2,hr⟩
   ·have T:=an h2 T
    refine wA T (g:=?_)
    cases hr
    refine⟨.inr rfl,_,(ry T),?_⟩
    exact wk_ T [] rfl .nil
   ·have T:=an h2 T
    refine wa_ T (g:=?_)
    cases hr
    refine⟨.inr rfl,_,(ry T),?_⟩
    exact wk_ T [] rfl .nil
 rfl
theorem nC{v1:Int}{v2:Int}{v3:Int}{v4:Bool}(hr:fT v1 v2 v3=some (v4)):Spec (lim Tryz.prog) 93 [.v (.int .i64 v1),.v (.int .i64 v2),.v (.int .i64 v3)] ⟨[.v (.bool v4)],[]⟩:=by
 unfold fT at hr
 have T:=trivial
 apply Spec.fn Tryz.func93 rfl
 focus (simp[Tryz.f93]<;>exact rfl)
 focus
  refine wa_ T (g:=?_)
  obtain⟨v5,h1,hr⟩:=bs hr
  apply TO.cal (wn T) rfl tG (fQ h1) rfl rfl rfl
  repeat exact sd T
  refine wa_ T (g:=?_)
  obtain⟨v6,h2,hr⟩:=bs hr
  apply TO.cal (wn T) rfl tG (fQ h2) rfl rfl rfl
  repeat exact sd T
  refine wa_ T (g:=?_)
  obtain⟨⟨v7,v8⟩,h3,hr⟩:=bs hr
  try dsimp only at hr
  apply TO.cal (wn T) rfl pM (cW h3) rfl rfl rfl
  repeat exact sd T
  refine wa_ T (g:=?_)
  obtain⟨⟨v9,v10⟩,h4,hr⟩:=bs hr
  try dsimp only at hr
  apply TO.cal (wn T) rfl pM (cW h4) rfl rfl rfl
  repeat exact sd T
  refine wa_ T (g:=?_)
  obtain⟨v11,h5,hr⟩:=bs hr
  apply TO.cal (wn T) rfl Gi (gR h5) rfl rfl rfl
  repeat exact sd T
  refine wa_ T (g:=?_)
  cases hr
  refine⟨.inr rfl,_,(ry T),?_⟩
  exact wr [] rfl .nil
 rfl
def y27:=an @ag141 <| an @ag3 <| an @cs100 <| an @iK <| an @mQ <| an @mW <| an @ok100 <| @so141
theorem lN{v1:Int}{v2:Int}{v3:(List (Int×Int))}{v4:Int}{v5:Bool}(hr:dW v1 v2 v3 v4=some (v5)):Spec (lim Tryz.prog) 140 [.agg [.v (.int .i64 v1),.v (.int .i64 v2)],.fptr true [.list 2 (v3.map e_ii)] 0,.fptr true [.v (.int .i64 v4)] 0] ⟨[.v (.bool v5)],[]⟩:=by
 unfold dW at hr
 have T:=an y27 <| @e_ii.eq_1
 apply Spec.fn Tryz.func140 rfl
 focus (simp[Tryz.f140]<;>exact rfl)
 focus
  refine wB T (g:=?_)
  obtain⟨⟨v6,v7⟩,h1,hr⟩:=bs hr
  try dsimp only at hr
  have T:=an (gx e_ii h1) T
  refine wA T (g:=?_)
  obtain⟨v8,h2,hr⟩:=bs hr
  apply TD.cal (wn T) rfl Sy (nC h2) rfl rfl rfl
  repeat exact sd T
  refine wa_ T (g:=?_)
  cases hr
  refine⟨.inr rfl,_,(ry T),?_⟩
  exact wr [] rfl .nil
 rfl
def y28:=an @ag100 <| an @cs100 <| an @ok100 <| an @so141 <| @nJ
theorem gJ{v1:(List (Int×Int))}{v2:(List (Int×Int))}{v3:Int}{v4:Int}(hr:bA v1 v2 v3=some (v4)):Spec (lim Tryz.prog) 91 [.list 2 (v1.map e_ii),.func 140 [] [.fptr true [.list 2 (v2.map e_ii)] 0,.fptr true [.v (.int .i64 v3)] 0]] ⟨[.v (.int .i64 v4)],[]⟩:=by
 unfold bA at hr
 have T:=an y28 <| @e_ii.eq_1
 apply Spec.fn Tryz.func91 rfl
 focus (simp[Tryz.f91]<;>exact rfl)
 focus
  refine wc_ T (g:=?_)
  obtain⟨v13,h9,hr⟩:=bs hr
  refine TX.loopE (step:=aJ v1 v2 v3) (x:=0) h9 (fun v5=>⟨.list 2 (v1.map e_ii)::.func 140 [] [.fptr true [.list 2 (v2.map e_ii)] 0,.fptr true [.v (.int .i64 v3)] 0]::.Z::.Z::.Z::.Z::.Z::.v (.int .i64 (v1.length:Int))::.v (.int .i64 v5)::.Z::.Z::.Z::.Z::.Z::.Z::.Z::.Z::.Z::.Z::[],[]⟩) (fun e=>match e with|(.inl v9)=>(.ret,⟨.Z::.Z::.Z::.Z::.v (.int .i64 v9)::.Z::.Z::.Z::.Z::.Z::.Z::.Z::.Z::.Z::.Z::.Z::.Z::.Z::.Z::[],[]⟩)|(.inr _)=>(.exit 0,⟨.Z::.Z::.Z::.Z::.Z::.Z::.Z::.Z::.Z::.Z::.Z::.Z::.Z::.Z::.Z::.Z::.Z::.Z::.Z::[],[]⟩)) ?_ ?_ ?_ ?_
  ·rintro v5 v0 hr
   dsimp only[aJ] at hr
   try dsimp only
   refine wa_ T (g:=?_)
   rcases ifs hr with⟨h5,hr⟩|⟨h5,hr⟩
   ·have T:=an h5 T
    refine wa_ T (g:=?_)
    obtain⟨⟨v10,v11⟩,h6,hr⟩:=bs hr
    try dsimp only at hr
    have T:=an (gx e_ii h6) T
    refine wA T (g:=?_)
    obtain⟨v12,h7,hr⟩:=bs hr
    apply TO.cal (wn T) rfl Wv (lN h7) rfl rfl rfl
    repeat exact sd T
    refine wa_ T (g:=?_)
    rcases ifs hr with⟨h8,hr⟩|⟨h8,hr⟩
    ·have T:=an h8 T
     refine wa_ T (g:=?_)
     cases hr
     refine⟨rfl,?_⟩
     exact wk_ T [] rfl .nil
    ·have T:=an h8 T
     refine wa_ T (g:=?_)
     cases hr
     refine⟨rfl,?_⟩
     exact wk_ T [] rfl .nil
   ·have T:=an h5 T
    refine wa_ T (g:=?_)
    cases hr
    refine⟨rfl,?_⟩
    exact wk_ T [] rfl .nil
  ·intro e h;rcases e with _|e<;>cases h
  ·try dsimp only
   rcases v13 with v14|_
   ·try dsimp only at hr
    try dsimp only
    refine wa_ T (g:=?_)
    cases hr
    refine⟨.inr rfl,_,(ry T),?_⟩
    exact wr [] rfl .nil
   ·try dsimp only at hr
    try dsimp only
    refine wa_ T (g:=?_)
    cases hr
    refine⟨.inr rfl,_,(ry T),?_⟩
    exact wr [] rfl .nil
  ·try dsimp only
   exact wr [] rfl .nil
 rfl
def y29:=an @ag141 <| an @ag3 <| an @cs100 <| an @iK <| an @mQ <| an @mW <| an @ok100 <| @so141
theorem lM{v1:Int}{v2:Int}{v3:(List (Int×Int))}{v4:Int}{v5:Bool}(hr:dZ v1 v2 v3 v4=some (v5)):Spec (lim Tryz.prog) 141 [.agg [.v (.int .i64 v1),.v (.int .i64 v2)],.fptr true [.list 2 (v3.map e_ii)] 0,.fptr true [.v (.int .i64 v4)] 0] ⟨[.v (.bool v5)],[]⟩:=by
 unfold dZ at hr
 have T:=an y29 <| @e_ii.eq_1
 apply Spec.fn Tryz.func141 rfl
 focus (simp[Tryz.f141]<;>exact rfl)
 focus
  refine wB T (g:=?_)
  obtain⟨⟨v6,v7⟩,h1,hr⟩:=bs hr
  try dsimp only at hr
  have T:=an (gx e_ii h1) T
  refine wA T (g:=?_)
  obtain⟨v8,h2,hr⟩:=bs hr
  apply TD.cal (wn T) rfl Sy (nC h2) rfl rfl rfl
  repeat exact sd T
  refine wa_ T (g:=?_)
  cases hr
  refine⟨.inr rfl,_,(ry T),?_⟩
  exact wr [] rfl .nil
 rfl
def y30:=an @ag100 <| an @cs100 <| an @ok100 <| an @so141 <| @nJ
theorem gL{v1:(List (Int×Int))}{v2:(List (Int×Int))}{v3:Int}{v4:Int}(hr:aQ v1 v2 v3=some (v4)):Spec (lim Tryz.prog) 91 [.list 2 (v1.map e_ii),.func 141 [] [.fptr true [.list 2 (v2.map e_ii)] 0,.fptr true [.v (.int .i64 v3)] 0]] ⟨[.v (.int .i64 v4)],[]⟩:=by
 unfold aQ at hr
 have T:=an y30 <| @e_ii.eq_1
 apply Spec.fn Tryz.func91 rfl
 focus (simp[Tryz.f91]<;>exact rfl)
 focus
  refine wc_ T (g:=?_)
  obtain⟨v13,h9,hr⟩:=bs hr
  refine TX.loopE (step:=aH v1 v2 v3) (x:=0) h9 (fun v5=>⟨.list 2 (v1.map e_ii)::.func 141 [] [.fptr true [.list 2 (v2.map e_ii)] 0,.fptr true [.v (.int .i64 v3)] 0]::.Z::.Z::.Z::.Z::.Z::.v (.int .i64 (v1.length:Int))::.v (.int .i64 v5)::.Z::.Z::.Z::.Z::.Z::.Z::.Z::.Z::.Z::.Z::[],[]⟩) (fun e=>match e with|(.inl v9)=>(.ret,⟨.Z::.Z::.Z::.Z::.v (.int .i64 v9)::.Z::.Z::.Z::.Z::.Z::.Z::.Z::.Z::.Z::.Z::.Z::.Z::.Z::.Z::[],[]⟩)|(.inr _)=>(.exit 0,⟨.Z::.Z::.Z::.Z::.Z::.Z::.Z::.Z::.Z::.Z::.Z::.Z::.Z::.Z::.Z::.Z::.Z::.Z::.Z::[],[]⟩)) ?_ ?_ ?_ ?_
  ·rintro v5 v0 hr
   dsimp only[aH] at hr
   try dsimp only
   refine wa_ T (g:=?_)
   rcases ifs hr with⟨h5,hr⟩|⟨h5,hr⟩
   ·have T:=an h5 T
    refine wa_ T (g:=?_)
    obtain⟨⟨v10,v11⟩,h6,hr⟩:=bs hr
    try dsimp only at hr
    have T:=an (gx e_ii h6) T
    refine wA T (g:=?_)
    obtain⟨v12,h7,hr⟩:=bs hr
    apply TO.cal (wn T) rfl Wd (lM h7) rfl rfl rfl
    repeat exact sd T
    refine wa_ T (g:=?_)
    rcases ifs hr with⟨h8,hr⟩|⟨h8,hr⟩
    ·have T:=an h8 T
     refine wa_ T (g:=?_)
     cases hr
     refine⟨rfl,?_⟩
     exact wk_ T [] rfl .nil
    ·have T:=an h8 T
     refine wa_ T (g:=?_)
     cases hr
     refine⟨rfl,?_⟩
     exact wk_ T [] rfl .nil
   ·have T:=an h5 T
    refine wa_ T (g:=?_)
    cases hr
    refine⟨rfl,?_⟩
    exact wk_ T [] rfl .nil
  ·intro e h;rcases e with _|e<;>cases h
  ·try dsimp only
   rcases v13 with v14|_
   ·try dsimp only at hr
    try dsimp only
    refine wa_ T (g:=?_)
    cases hr
    refine⟨.inr rfl,_,(ry T),?_⟩
    exact wr [] rfl .nil
   ·try dsimp only at hr
    try dsimp only
    refine wa_ T (g:=?_)
    cases hr
    refine⟨.inr rfl,_,(ry T),?_⟩
    exact wr [] rfl .nil
  ·try dsimp only
   exact wr [] rfl .nil
 rfl
def y31:=an @ag100 <| an @ag141 <| an @ag94 <| an @cs100 <| an @cs141 <| an @cs94 <| an @ok100 <| an @ok141 <| an @ok94 <| an @st100 <| an @zc100 <| @zc141
theorem gT{v1:Int}{v2:(List Nat)}{v3:Int}{v4:Int}{v5:Int}{v6:Int}{v7:Int}{v8:Int}(hr:cR v1 v2 v3 v4 v5=some (v6,v7,v8)):Spec (lim Tryz.prog) 97 [.agg [.v (.int .i64 v1),.list 1 (v2.map e_f),.v (.int .i64 v3),.v (.int .i64 v4)],.v (.int .i64 v5)] ⟨[.tuple [.agg [.v (.int .i64 v6),.v (.int .i64 v7)],.v (.int .i64 v8)]],[]⟩:=by
 unfold cR at hr
 have T:=an y31 <| @e_f.eq_1
 apply Spec.fn Tryz.func97 rfl
 focus (simp[Tryz.f97]<;>exact rfl)
 focus
  refine wB T (g:=?_)
  obtain⟨v9,h1,hr⟩:=bs hr
  apply TO.cal (wn T) rfl Lj (jH h1) rfl rfl rfl
  repeat exact sd T
  refine wA T (g:=?_)
  apply TO.frz 1 rfl rfl
  repeat exact sd T
  refine wa_ T (g:=?_)
  apply TO.frz 2 rfl rfl
  repeat exact sd T
  refine wa_ T (g:=?_)
  obtain⟨v10,h2,hr⟩:=bs hr
  apply TO.cal (wn T) rfl Ub (gJ h2) rfl rfl rfl
  repeat exact sd T
  refine wA T (g:=?_)
  obtain⟨v11,h3,hr⟩:=bs hr
  apply TO.cal (wn T) rfl Ub (gL h3) rfl rfl rfl
  repeat exact sd T
  refine wa_ T (g:=?_)
  rcases ifs hr with⟨h4,hr⟩|⟨h4,hr⟩
  ·have T:=an h4 T
   refine wa_ T (g:=?_)
   cases hr
   refine⟨.inr rfl,_,(ry T),?_⟩
   exact wk_ T [] rfl .nil
  ·have T:=an h4 T
   refine wA T (g:=?_)
   obtain⟨v12,h5,hr⟩:=bs hr
   apply TO.cal (wn T) rfl pG (cB h5) rfl rfl rfl
   repeat exact sd T
   refine wa_ T (g:=?_)
   rcases ifs hr with⟨h6,hr⟩|⟨h6,hr⟩
   ·have T:=an h6 T
    refine wa_ T (g:=?_)
    cases hr
    refine⟨.inr rfl,_,(ry T),?_⟩
    exact wk_ T [] rfl .nil
   ·have T:=an h6 T
    refine wa_ T (g:=?_)
    apply TO.pop1 (wn T) (oC rfl rfl)
    repeat exact sd T
    refine wa_ T (g:=?_)
    obtain⟨⟨v13,v14⟩,h7,hr⟩:=bs hr
    try dsimp only at hr
    apply TO.cal (wn T) rfl jW (bB h7) rfl rfl rfl
    repeat exact sd T
    refine wa_ T (g:=?_)
    cases hr
    refine⟨.inr rfl,_,(ry T),?_⟩
    exact wk_ T [] rfl .nil
 rfl
def y32:=an @ag100 <| an @ag3 <| an @cs100 <| an @iK <| an @mQ <| an @mW <| an @ok100 <| @zc100
theorem mG{v1:Int}{v2:Int}{v3:Int}{v4:Int}{v5:Int}{v6:Int}(hr:gD v1 v2 v3 v4=some (v5,v6)):Spec (lim Tryz.prog) 99 [.agg [.v (.int .i64 v1),.v (.int .i64 v2)],.agg [.v (.int .i64 v3),.v (.int .i64 v4)]] ⟨[.agg [.v (.int .i64 v5),.v (.int .i64 v6)]],[]⟩:=by
 unfold gD at hr
 have T:=y32
 apply Spec.fn Tryz.func99 rfl
 focus (simp[Tryz.f99]<;>exact rfl)
 focus
  refine wB T (g:=?_)
  apply TO.pop1 (wn T) (oC rfl rfl)
  repeat exact sd T
  refine wA T (g:=?_)
  obtain⟨⟨v7,v8⟩,h1,hr⟩:=bs hr
  try dsimp only at hr
  apply TO.cal (wn T) rfl jW (bB h1) rfl rfl rfl
  repeat exact sd T
  refine wa_ T (g:=?_)
  cases hr
  refine⟨.inr rfl,_,(ry T),?_⟩
  exact wr [] rfl .nil
 rfl
def y33:=an @ag100 <| an @ag3 <| an @cs100 <| an @iK <| an @mQ <| an @mW <| an @ok100 <| @zc100
theorem cF{v1:Int}{v2:Int}{v3:Int}{v4:Int}{v5:Int}(hr:aW v1 v2 v3=some (v4,v5)):Spec (lim Tryz.prog) 100 [.agg [.v (.int .i64 v1),.v (.int .i64 v2)],.v (.int .i64 v3)] ⟨[.agg [.v (.int .i64 v4),.v (.int .i64 v5)]],[]⟩:=by
 unfold aW at hr
 have T:=y33
 apply Spec.fn Tryz.func100 rfl
 focus (simp[Tryz.f100]<;>exact rfl)
 focus
  refine wB T (g:=?_)
  obtain⟨⟨v6,v7⟩,h1,hr⟩:=bs hr
  try dsimp only at hr
  apply TO.cal (wn T) rfl jW (bB h1) rfl rfl rfl
  repeat exact sd T
  refine wa_ T (g:=?_)
  cases hr
  refine⟨.inr rfl,_,(ry T),?_⟩
  exact wr [] rfl .nil
 rfl
theorem mP{v1:Int}{v2:Int}{v3:Int}(hr:iG v1 v2=some (v3)):Spec (lim Tryz.prog) 118 [.v (.int .i64 v1),.v (.int .i64 v2)] ⟨[.v (.int .i64 v3)],[]⟩:=by
 unfold iG at hr
 have T:=trivial
 apply Spec.fn Tryz.func118 rfl
 focus (simp[Tryz.f118]<;>exact rfl)
 focus
  refine wa_ T (g:=?_)
  by_cases h1:v2=0
  ·rw[if_pos h1] at hr
   cases hr
  ·rw[if_neg h1] at hr
   have T:=an h1 T
   refine wa_ T (g:=?_)
   cases hr
   refine⟨.inr rfl,_,(ry T),?_⟩
   exact wr [] rfl .nil
 rfl
theorem lT{v1:Int}{v2:Int}{v3:Int}(hr:iX v1 v2=some (v3)):Spec (lim Tryz.prog) 119 [.v (.int .i64 v1),.v (.int .i64 v2)] ⟨[.v (.int .i64 v3)],[]⟩:=by
 unfold iX at hr
 have T:=trivial
 apply Spec.fn Tryz.func119 rfl
 focus (simp[Tryz.f119]<;>exact rfl)
 focus
  refine wa_ T (g:=?_)
  by_cases h1:v2=0
  ·rw[if_pos h1] at hr
   cases hr
  ·rw[if_neg h1] at hr
   have T:=an h1 T
   refine wa_ T (g:=?_)
   cases hr
   refine⟨.inr rfl,_,(ry T),?_⟩
   exact wr [] rfl .nil
 rfl
def y34:=an @ag100 <| an @ag3 <| an @cs100 <| an @iK <| an @uN <| an @pU <| an @mQ <| an @mW <| an @uA <| an @ok100 <| @zc100
theorem jG{v1:Int}{v2:(List Nat)}{v3:Int}{v4:Int}{v5:Int}{v6:Int}{v7:Int}{v8:Int}(hr:dN v1 v2 v3 v4 v5 v6=some (v7,v8)):Spec (lim Tryz.prog) 98 [.agg [.v (.int .i64 v1),.list 1 (v2.map e_f),.v (.int .i64 v3),.v (.int .i64 v4)],.agg [.v (.int .i64 v5),.v (.int .i64 v6)]] ⟨[.agg [.v (.int .i64 v7),.v (.int .i64 v8)]],[]⟩:=by
 unfold dN at hr
 have T:=an y34 <| @e_f.eq_1
 apply Spec.fn Tryz.func98 rfl
 focus (simp[Tryz.f98]<;>exact rfl)
 focus
  refine wB T (g:=?_)
  obtain⟨⟨v9,v10⟩,h1,hr⟩:=bs hr
  try dsimp only at hr
  apply TO.cal (wn T) rfl pJ (cF h1) rfl rfl rfl
  repeat exact sd T
  refine wA T (g:=?_)
  obtain⟨v11,h2,hr⟩:=bs hr
  apply TD.cal (wn T) rfl Fp (mP h2) rfl rfl rfl
  repeat exact sd T
  refine wA T (g:=?_)
  obtain⟨v12,h3,hr⟩:=bs hr
  apply TD.cal (wn T) rfl zL (lT h3) rfl rfl rfl
  repeat exact sd T
  refine wa_ T (g:=?_)
  obtain⟨⟨v13,v14⟩,h4,hr⟩:=bs hr
  try dsimp only at hr
  apply TD.cal (wn T) rfl jW (bB h4) rfl rfl rfl
  repeat exact sd T
  refine wa_ T (g:=?_)
  cases hr
  refine⟨.inr rfl,_,(ry T),?_⟩
  exact wr [] rfl .nil
 rfl
end Go.Rex
namespace Go.Rex
open Go.Proofs
open Go Go.Rex Go.RowKit
set_option maxRecDepth 100000
set_option maxHeartbeats 1000000
def y35:=an @ag100 <| an @ag152 <| an @ag3 <| an @ag30 <| an @ag94 <| an @ar153 <| an @cs100 <| an @cs152 <| an @cs30 <| an @cs94 <| an @iK <| an @Vm <| an @Uu <| an @Vj <| an @mQ <| an @ok100 <| an @ok152 <| an @ok30 <| an @ok94 <| an @so153 <| an @st100 <| an @zc100 <| @zc152
theorem qH{v1:Int}{v2:(List Nat)}{v3:Int}{v4:Int}{v5:Int}{v6:Int}{v7:Int}{v8:Int}(hr:eA v1 v2 v3 v4 v5=some (v6,v7,v8)):Spec (lim Tryz.prog) 56 [.agg [.v (.int .i64 v1),.list 1 (v2.map e_f),.v (.int .i64 v3),.v (.int .i64 v4)],.v (.int .i64 v5)] ⟨[.tuple [.agg [.v (.int .i64 v6),.v (.int .i64 v7)],.v (.int .i64 v8)]],[]⟩:=by
 unfold eA at hr
 have T:=an y35 <| an @e_f.eq_1 <| @e_iii.eq_1
 apply Spec.fn Tryz.func56 rfl
 focus (simp[Tryz.f56]<;>exact rfl)
 focus
  refine wB T (g:=?_)
  obtain⟨⟨v9,v10⟩,h1,hr⟩:=bs hr
  try dsimp only at hr
  apply TO.cal (wn T) rfl Uk (mD h1) rfl rfl rfl
  repeat exact sd T
  refine wa_ T (g:=?_)
  rcases ifs hr with⟨h2,hr⟩|⟨h2,hr⟩
  ·have T:=an h2 T
   refine wa_ T (g:=?_)
   cases hr
   refine⟨.inr rfl,_,(ry T),?_⟩
   exact wk_ T [] rfl .nil
  ·have T:=an h2 T
   refine wa_ T (g:=?_)
   obtain⟨⟨v11,v12,v13⟩,h3,hr⟩:=bs hr
   try dsimp only at hr
   have h3l:=nA h3
   refine wa_ T (g:=?_)
   have T:=an h3l T
   apply TO.pop1 (wn T) (iaP (xs:=([(0,2,6),(1,5,3),(1,7,2)]:List (Int×Int×Int))) h3 rfl rfl so153 ar153 rfl ok152 cs152)
   repeat exact sd T
   refine wa_ T (g:=?_)
   apply TO.ld (wn T) rfl (Lg (p:=.agg [.v (.int .i64 v11),.v (.int .i64 v12),.v (.int .i64 v13)]) (fo:=0) (f:=e_iii) (xs:=([(0,2,6),(1,5,3),(1,7,2)]:List (Int×Int×Int))) h3 rfl (fun _=>rfl) rfl (by simp only[fM,zz,y35,e_f,e_iii,Nat.reduceAdd,Nat.reduceMul,Nat.reduceLeDiff,Nat.reduceEqDiff,h2,h3l]<;>exact rfl))
   repeat exact sd T
   refine wA T (g:=?_)
   rcases ifs hr with⟨h4,hr⟩|⟨h4,hr⟩
   ·have T:=an h4 T
    refine wA T (g:=?_)
    obtain⟨⟨v14,v15,v16⟩,h5,hr⟩:=bs hr
    try dsimp only at hr
    apply TO.cal (wn T) rfl Ko (gT h5) rfl rfl rfl
    repeat exact sd T
    refine wa_ T (g:=?_)
    rcases ifs hr with⟨h6,hr⟩|⟨h6,hr⟩
    ·have T:=an h6 T
     refine wa_ T (g:=?_)
     cases hr
     refine⟨.inr rfl,_,(ry T),?_⟩
     exact wk_ T [] rfl .nil
    ·have T:=an h6 T
     refine wA T (g:=?_)
     obtain⟨⟨v17,v18,v19⟩,h7,hr⟩:=bs hr
     try dsimp only at hr
     apply TO.cal (wn T) rfl Ko (gT h7) rfl rfl rfl
     repeat exact sd T
     refine wa_ T (g:=?_)
     rcases ifs hr with⟨h8,hr⟩|⟨h8,hr⟩
     ·have T:=an h8 T
      refine wa_ T (g:=?_)
      cases hr
      refine⟨.inr rfl,_,(ry T),?_⟩
      exact wk_ T [] rfl .nil
     ·have T:=an h8 T
      refine wA T (g:=?_)
      obtain⟨⟨v20,v21⟩,h9,hr⟩:=bs hr
      try dsimp only at hr
      apply TD.cal (wn T) rfl Sz (mG h9) rfl rfl rfl
      repeat exact sd T
      refine wA T (g:=?_)
      obtain⟨⟨v22,v23⟩,h10,hr⟩:=bs hr
      try dsimp only at hr
      apply TD.cal (wn T) rfl pJ (cF h10) rfl rfl rfl
      repeat exact sd T
      refine wa_ T (g:=?_)
      obtain⟨⟨v24,v25⟩,h11,hr⟩:=bs hr
      try dsimp only at hr
      apply TD.cal (wn T) rfl Le (jG h11) rfl rfl rfl
      repeat exact sd T
      refine wa_ T (g:=?_)
      cases hr
      refine⟨.inr rfl,_,(ry T),?_⟩
      exact wk_ T [] rfl .nil
   ·have T:=an h4 T
    refine wA T (g:=?_)
    obtain⟨⟨v26,v27,v28⟩,h12,hr⟩:=bs hr
    try dsimp only at hr
    apply TO.cal (wn T) rfl Ko (gT h12) rfl rfl rfl
    repeat exact sd T
    refine wa_ T (g:=?_)
    rcases ifs hr with⟨h13,hr⟩|⟨h13,hr⟩
    ·have T:=an h13 T
     refine wa_ T (g:=?_)
     cases hr
     refine⟨.inr rfl,_,(ry T),?_⟩
     exact wk_ T [] rfl .nil
    ·have T:=an h13 T
     refine wA T (g:=?_)
     obtain⟨⟨v29,v30⟩,h14,hr⟩:=bs hr
     try dsimp only at hr
     apply TD.cal (wn T) rfl Sz (mG h14) rfl rfl rfl
     repeat exact sd T
     refine wA T (g:=?_)
     obtain⟨⟨v31,v32⟩,h15,hr⟩:=bs hr
     try dsimp only at hr
     apply TD.cal (wn T) rfl pJ (cF h15) rfl rfl rfl
     repeat exact sd T
     refine wa_ T (g:=?_)
     obtain⟨⟨v33,v34⟩,h16,hr⟩:=bs hr
     try dsimp only at hr
     apply TD.cal (wn T) rfl Le (jG h16) rfl rfl rfl
     repeat exact sd T
     refine wa_ T (g:=?_)
     cases hr
     refine⟨.inr rfl,_,(ry T),?_⟩
     exact wk_ T [] rfl .nil
 rfl
end Go.Rex
namespace Go.Rex
open Go.Proofs
open Go Go.Rex Go.RowKit
set_option maxRecDepth 100000
set_option maxHeartbeats 200000
def y36:=an @ag26 <| an @ag30 <| an @ag94 <| an @cs100 <| an @cs26 <| an @cs30 <| an @cs31 <| an @cs94 <| an @iK <| an @ok100 <| an @ok26 <| an @ok30 <| an @ok94 <| an @so149 <| an @st30 <| an @zc100 <| an @zc30 <| an @zc31 <| @zc94
theorem lC{v1:Int}{v2:(List Nat)}{v3:Int}{v4:Int}{v5:Int}{v6:Int}{v7:Int}{v8:Int}(hr:cH v1 v2 v3 v4 v5=some (v6,v7,v8)):Spec (lim Tryz.prog) 16 [.agg [.v (.int .i64 v1),.list 1 (v2.map e_f),.v (.int .i64 v3),.v (.int .i64 v4)],.v (.int .i64 v5)] ⟨[.tuple [.agg [.v (.int .i64 v6),.v (.int .i64 v7)],.v (.int .i64 v8)]],[]⟩:=by
 unfold cH at hr
 have T:=an y36 <| an @e_f.eq_1 <| @e_i.eq_1
 apply Spec.fn Tryz.func16 rfl
 focus (simp[Tryz.f16]<;>exact rfl)
 focus
  refine wB T (g:=?_)
  obtain⟨⟨v9,v10,v11,v12,v13⟩,h1,hr⟩:=bs hr
  try dsimp only at hr
  apply TO.cal (wn T) rfl Ec (kK h1) rfl rfl rfl
  repeat exact sd T
  refine wa_ T (g:=?_)
  obtain⟨v14,h2,hr⟩:=bs hr
  apply TO.cal (wn T) rfl Zg (rT h2) rfl rfl rfl
  repeat exact sd T
  refine wa_ T (g:=?_)
  apply TO.bm e_i ([v13,v14]:List Int) (wn T) rfl (by simp only[zz,y36,e_f,e_i,Nat.reduceAdd,Nat.reduceMul,Nat.reduceLeDiff,Nat.reduceEqDiff,tslice,tparts];exact rfl) rfl
  repeat exact sd T
  refine wa_ T (g:=?_)
  obtain⟨v15,h3,hr⟩:=bs hr
  apply TO.cal (wn T) rfl oS (bG h3) rfl rfl rfl
  repeat exact sd T
  refine wa_ T (g:=?_)
  rcases ifs hr with⟨h4,hr⟩|⟨h4,hr⟩
  ·have T:=an h4 T
   refine wa_ T (g:=?_)
   cases hr
   refine⟨.inr rfl,_,(ry T),?_⟩
   exact wk_ T [] rfl .nil
  ·have T:=an h4 T
   refine wA T (g:=?_)
   obtain⟨⟨v16,v17,v18⟩,h5,hr⟩:=bs hr
   try dsimp only at hr
   apply TO.cal (wn T) rfl Zf (qH h5) rfl rfl rfl
   repeat exact sd T
   refine wA T (g:=?_)
   cases hr
   refine⟨.inr rfl,_,(ry T),?_⟩
   exact wk_ T [] rfl .nil
 rfl
def y37:=an @ag24 <| an @ag30 <| an @cs24 <| an @cs30 <| an @ok24 <| an @ok30 <| @zc30
theorem uV{v1:Int}{v2:(List Nat)}{v3:Int}{v4:Int}{v5:Int}{v6:Int}(hr:iC v1 v2 v3=some (v4,v5,v6)):Spec (lim Tryz.prog) 14 [.agg [.v (.int .i64 v1),.list 1 (v2.map e_f)],.v (.int .i64 v3)] ⟨[.tuple [.agg [.v (.int .i64 v4),.v (.int .i64 v5)],.v (.int .i64 v6)]],[]⟩:=by
 unfold iC at hr
 have T:=an y37 <| @e_f.eq_1
 apply Spec.fn Tryz.func14 rfl
 focus (simp[Tryz.f14]<;>exact rfl)
 focus
  refine wB T (g:=?_)
  obtain⟨⟨v7,v8⟩,h1,hr⟩:=bs hr
  try dsimp only at hr
  apply TO.cal (wn T) rfl Yx (wJ h1) rfl rfl rfl
  repeat exact sd T
  refine wa_ T (g:=?_)
  obtain⟨⟨v9,v10,v11⟩,h2,hr⟩:=bs hr
  try dsimp only at hr
  apply TO.cal (wn T) rfl Sk (lC h2) rfl rfl rfl
  repeat exact sd T
  refine wa_ T (g:=?_)
  cases hr
  refine⟨.inr rfl,_,(ry T),?_⟩
  exact wr [] rfl .nil
 rfl
def y38:=an @ag24 <| an @ag26 <| an @cs24 <| an @cs26 <| an @pU <| an @ok24 <| an @ok26 <| @zc26
theorem aK{v1:Int}{v2:(List Nat)}{v3:Int}{v4:Int}{v5:Int}{v6:(List Nat)}{v7:Int}{v8:Int}(hr:aL v1 v2 v3 v4=some (v5,v6,v7,v8)):Spec (lim Tryz.prog) 17 [.agg [.v (.int .i64 v1),.list 1 (v2.map e_f),.v (.int .i64 v3),.v (.int .i64 v4)]] ⟨[.agg [.v (.int .i64 v5),.lsl 0 0 v6.length,.v (.int .i64 v7),.v (.int .i64 v8)]],[.rows 1 (v6.map e_f)]⟩:=by
 unfold aL at hr
 have T:=an y38 <| @e_f.eq_1
 apply Spec.fn Tryz.func17 rfl
 focus (simp[Tryz.f17]<;>exact rfl)
 focus
  repeat (first|(with_reducible first|refine mv ?_|refine m12 rfl ?_|refine TO.nil ?_)|((with_reducible first|apply TO.bx (dst:=some 1)|apply TO.al|apply TO.fa|apply TO.ld);(repeat (focus (show _=_;first|exact k1 rfl|exact k2 rfl|(simp only[zz,y38,e_f,Nat.reduceAdd,Nat.reduceMul,Nat.reduceLeDiff,Nat.reduceEqDiff,bS,tload,hG,fM,List.getElem?_map]<;>exact rfl)|exact rfl)));(with_reducible apply TO.here))|((with_reducible apply TX.region);(focus (simp only[zl]<;>exact rfl));(focus rfl);(try dsimp only))|fail)
  obtain⟨⟨v9,v10⟩,h1,hr⟩:=bs hr
  try dsimp only at hr
  apply TO.cal (wn T) rfl Lh (jF h1) rfl rfl rfl
  repeat exact sd T
  refine wA T (g:=?_)
  cases hr
  refine⟨.inr rfl,_,(ry T),?_⟩
  exact wr [some 2] rfl (.rows .nil rfl rfl)
 rfl
def y39:=an @ag3 <| an @mQ <| @mW
theorem bQ{v1:Int}{v2:Int}{v3:Int}{v4:Int}{v5:Bool}(hr:bM v1 v2 v3 v4=some (v5)):Spec (lim Tryz.prog) 46 [.agg [.v (.int .i64 v1),.v (.int .i64 v2)],.agg [.v (.int .i64 v3),.v (.int .i64 v4)]] ⟨[.v (.bool v5)],[]⟩:=by
 unfold bM at hr
 have T:=y39
 apply Spec.fn Tryz.func46 rfl
 focus (simp[Tryz.f46]<;>exact rfl)
 focus
  refine wB T (g:=?_)
  apply TO.pop1 (wn T) (oC rfl rfl)
  repeat exact sd T
  refine wA T (g:=?_)
  apply TO.pop1 (wn T) (Ep rfl rfl)
  repeat exact sd T
  refine wa_ T (g:=?_)
  cases hr
  refine⟨.inr rfl,_,(ry T),?_⟩
  exact wr [] rfl .nil
 rfl
theorem mJ{v1:Int}{v2:Int}(hr:eK v1=some (v2)):Spec (lim Tryz.prog) 67 [.v (.int .i64 v1)] ⟨[.v (.int .i64 v2)],[]⟩:=by
 unfold eK at hr
 have T:=trivial
 apply Spec.fn Tryz.func67 rfl
 focus (simp[Tryz.f67]<;>exact rfl)
 focus
  refine wa_ T (g:=?_)
  obtain⟨v3,h1,hr⟩:=bs hr
  apply TO.cal (wn T) rfl wZ (fA h1) rfl rfl rfl
  repeat exact sd T
  refine wa_ T (g:=?_)
  cases hr
  refine⟨.inr rfl,_,(ry T),?_⟩
  exact wr [] rfl .nil
 rfl
theorem nE{v1:Int}{v2:Int}{v3:Int}(hr:fV v1 v2=some (v3)):Spec (lim Tryz.prog) 112 [.v (.int .i64 v1),.v (.int .i64 v2)] ⟨[.v (.int .i64 v3)],[]⟩:=by
 unfold fV at hr
 have T:=trivial
 apply Spec.fn Tryz.func112 rfl
 focus (simp[Tryz.f112]<;>exact rfl)
 focus
  refine wa_ T (g:=?_)
  obtain⟨v4,h1,hr⟩:=bs hr
  apply TO.cal (wn T) rfl zL (lT h1) rfl rfl rfl
  repeat exact sd T
  refine wa_ T (g:=?_)
  cases hr
  refine⟨.inr rfl,_,(ry T),?_⟩
  exact wr [] rfl .nil
 rfl
def y40:=an @ag3 <| an @ag94 <| an @cs94 <| an @uN <| an @pU <| an @uA <| @ok94
theorem lB{v1:Int}{v2:(List Nat)}{v3:Int}{v4:Int}{v5:Int}{v6:Int}(hr:cS v1 v2 v3 v4 v5=some (v6)):Spec (lim Tryz.prog) 117 [.agg [.v (.int .i64 v1),.list 1 (v2.map e_f),.v (.int .i64 v3),.v (.int .i64 v4)],.v (.int .i64 v5)] ⟨[.v (.int .i64 v6)],[]⟩:=by
 unfold cS at hr
 have T:=an y40 <| @e_f.eq_1
 apply Spec.fn Tryz.func117 rfl
 focus (simp[Tryz.f117]<;>exact rfl)
 focus
  refine wB T (g:=?_)
  obtain⟨v7,h1,hr⟩:=bs hr
  apply TD.cal (wn T) rfl Nm (nE h1) rfl rfl rfl
  repeat exact sd T
  refine wA T (g:=?_)
  obtain⟨v8,h2,hr⟩:=bs hr
  apply TD.cal (wn T) rfl pG (cB h2) rfl rfl rfl
  repeat exact sd T
  refine wa_ T (g:=?_)
  apply TD.pop1 (wn T) (Ep rfl rfl)
  repeat exact sd T
  refine wa_ T (g:=?_)
  cases hr
  refine⟨.inr rfl,_,(ry T),?_⟩
  exact wr [] rfl .nil
 rfl
def y41:=an @ag100 <| an @ag94 <| an @cs100 <| an @cs94 <| an @ok100 <| an @ok94 <| @zc100
theorem pV{v1:Int}{v2:(List Nat)}{v3:Int}{v4:Int}{v5:Int}{v6:Int}{v7:Int}{v8:Int}(hr:dL v1 v2 v3 v4 v5 v6=some (v7,v8)):Spec (lim Tryz.prog) 116 [.agg [.v (.int .i64 v1),.list 1 (v2.map e_f),.v (.int .i64 v3),.v (.int .i64 v4)],.v (.int .i64 v5),.v (.int .i64 v6)] ⟨[.agg [.v (.int .i64 v7),.v (.int .i64 v8)]],[]⟩:=by
 unfold dL at hr
 have T:=an y41 <| @e_f.eq_1
 apply Spec.fn Tryz.func116 rfl
 focus (simp[Tryz.f116]<;>exact rfl)
 focus
  refine wb_ T (g:=?_)
  obtain⟨⟨v22,v23⟩,h7,hr⟩:=bs hr
  try dsimp only at hr
  refine TX.loopE (step:=eW v1 v2 v3 v4 v6) (x:=(0,0,v5)) h7 (fun (v9,v10,v11)=>⟨.Z::.Z::.v (.int .i64 v6)::.fptr true [.v (.int .i64 v1),.list 1 (v2.map e_f),.v (.int .i64 v3),.v (.int .i64 v4)] 0::.Z::.Z::.lptr 0 0 0::.lptr 1 0 0::.v (.int .i64 v11)::.Z::.Z::.Z::.Z::.Z::.Z::.Z::.Z::.Z::.Z::.Z::.Z::[],[.var [.v (.int .i64 0),.v (.int .i64 0)],.var [.v (.int .i64 v9),.v (.int .i64 v10)]]⟩) (fun (v16,v17)=>(.exit 0,⟨.Z::.Z::.Z::.Z::.Z::.Z::.lptr 0 0 0::.lptr 1 0 0::.Z::.Z::.Z::.Z::.Z::.Z::.Z::.Z::.Z::.Z::.Z::.Z::.Z::[],[.var [.v (.int .i64 0),.v (.int .i64 0)],.var [.v (.int .i64 v16),.v (.int .i64 v17)]]⟩)) ?_ ?_ ?_ ?_
  ·rintro⟨v9,v10,v11⟩ v0 hr
   dsimp only[eW] at hr
   try dsimp only
   refine wa_ T (g:=?_)
   rcases ifs hr with⟨h4,hr⟩|⟨h4,hr⟩
   ·have T:=an h4 T
    refine wA T (g:=?_)
    obtain⟨⟨v18,v19⟩,h5,hr⟩:=bs hr
    try dsimp only at hr
    apply TD.cal (wn T) rfl En (iM h5) rfl rfl rfl
    repeat exact sd T
    refine wa_ T (g:=?_)
    obtain⟨⟨v20,v21⟩,h6,hr⟩:=bs hr
    try dsimp only at hr
    apply TD.cal (wn T) rfl Eu (jU h6) rfl rfl rfl
    repeat exact sd T
    refine wa_ T (g:=?_)
    cases hr
    refine⟨rfl,?_⟩
    exact wk_ T [some 0,some 1] rfl (rv (rv .nil rfl) rfl)
   ·have T:=an h4 T
    refine wa_ T (g:=?_)
    cases hr
    refine⟨rfl,?_⟩
    exact wk_ T [some 0,some 1] rfl (rv (rv .nil rfl) rfl)
  ·intro e h;cases h
  ·try dsimp only
   refine wA T (g:=?_)
   cases hr
   refine⟨.inr rfl,_,(ry T),?_⟩
   exact wr [] rfl .nil
  ·try dsimp only
   exact wr [some 0,some 1] rfl (rv (rv .nil rfl) rfl)
 rfl
def y42:=an @ag100 <| an @ag94 <| an @cs100 <| an @cs94 <| an @ok100 <| an @ok94 <| @zc100
theorem kZ{v1:Int}{v2:(List Nat)}{v3:Int}{v4:Int}{v5:Int}{v6:Int}{v7:Int}(hr:dB v1 v2 v3 v4 v5=some (v6,v7)):Spec (lim Tryz.prog) 72 [.agg [.v (.int .i64 v1),.list 1 (v2.map e_f),.v (.int .i64 v3),.v (.int .i64 v4)],.v (.int .i64 v5)] ⟨[.agg [.v (.int .i64 v6),.v (.int .i64 v7)]],[]⟩:=by
 unfold dB at hr
 have T:=an y42 <| @e_f.eq_1
 apply Spec.fn Tryz.func72 rfl
 focus (simp[Tryz.f72]<;>exact rfl)
 focus
  refine wB T (g:=?_)
  obtain⟨v8,h1,hr⟩:=bs hr
  apply TD.cal (wn T) rfl Mk (lB h1) rfl rfl rfl
  repeat exact sd T
  refine wa_ T (g:=?_)
  obtain⟨⟨v9,v10⟩,h2,hr⟩:=bs hr
  try dsimp only at hr
  apply TD.cal (wn T) rfl Ws (pV h2) rfl rfl rfl
  repeat exact sd T
  refine wa_ T (g:=?_)
  cases hr
  refine⟨.inr rfl,_,(ry T),?_⟩
  exact wr [] rfl .nil
 rfl
def y43:=an @ag100 <| an @ag94 <| an @cs100 <| an @cs94 <| an @ok100 <| an @ok94 <| an @so141 <| @zc100
theorem lP{v1:Int}{v2:(List Nat)}{v3:Int}{v4:Int}{v5:Int}{v6:Int}{v7:Int}(hr:eR v1 v2 v3 v4 v5=some (v6,v7)):Spec (lim Tryz.prog) 111 [.agg [.v (.int .i64 v1),.list 1 (v2.map e_f),.v (.int .i64 v3),.v (.int .i64 v4)],.v (.int .i64 v5)] ⟨[.agg [.v (.int .i64 v6),.v (.int .i64 v7)]],[]⟩:=by
 unfold eR at hr
 have T:=an y43 <| an @e_f.eq_1 <| @e_ii.eq_1
 apply Spec.fn Tryz.func111 rfl
 focus (simp[Tryz.f111]<;>exact rfl)
 focus
  refine wB T (g:=?_)
  obtain⟨v8,h1,hr⟩:=bs hr
  apply TD.cal (wn T) rfl Lj (jH h1) rfl rfl rfl
  repeat exact sd T
  refine wA T (g:=?_)
  obtain⟨v9,h2,hr⟩:=bs hr
  apply TD.cal (wn T) rfl Mk (lB h2) rfl rfl rfl
  repeat exact sd T
  refine wa_ T (g:=?_)
  obtain⟨⟨v10,v11⟩,h3,hr⟩:=bs hr
  try dsimp only at hr
  have T:=an (gx e_ii h3) T
  refine wA T (g:=?_)
  cases hr
  refine⟨.inr rfl,_,(ry T),?_⟩
  exact wr [] rfl .nil
 rfl
theorem uP{v1:Int}{v2:Int}{v3:Int}(hr:kN v1 v2=some (v3)):Spec (lim Tryz.prog) 142 [.v (.int .i64 v1),.v (.int .i64 v2)] ⟨[.v (.int .i64 v3)],[]⟩:=by
 unfold kN at hr
 have T:=trivial
 apply Spec.fn Tryz.func142 rfl
 focus (simp[Tryz.f142]<;>exact rfl)
 focus
  refine wa_ T (g:=?_)
  by_cases h1:v2=0
  ·rw[if_pos h1] at hr
   cases hr
  ·rw[if_neg h1] at hr
   have T:=an h1 T
   refine wa_ T (g:=?_)
   cases hr
   refine⟨.inr rfl,_,(ry T),?_⟩
   exact wr [] rfl .nil
 rfl
end Go.Rex
namespace Go.Rex
open Go.Proofs
open Go Go.Rex Go.RowKit
set_option maxRecDepth 100000
set_option maxHeartbeats 1000000
def y44:=an @ag100 <| an @ag3 <| an @ar186 <| an @cs100 <| an @cs3 <| an @iK <| an @mW <| an @ok100 <| an @ok3 <| an @so186 <| @zc100
theorem nV{v1:Int}{v2:Int}{v3:Int}{v4:Int}(hr:gM v1=some (v2,v3,v4)):Spec (lim Tryz.prog) 105 [.v (.int .i64 v1)] ⟨[.tuple [.agg [.v (.int .i64 v2),.v (.int .i64 v3)],.v (.int .i64 v4)]],[]⟩:=by
 unfold gM at hr
 have T:=an y44 <| @e_i.eq_1
 apply Spec.fn Tryz.func105 rfl
 focus (simp[Tryz.f105]<;>exact rfl)
 focus
  refine wa_ T (g:=?_)
  obtain⟨v5,h1,hr⟩:=bs hr
  apply TO.cal (wn T) rfl Vc (uP h1) rfl rfl rfl
  repeat exact sd T
  refine wa_ T (g:=?_)
  obtain⟨v6,h2,hr⟩:=bs hr
  have h2l:=nA h2
  refine wa_ T (g:=?_)
  have T:=an h2l T
  apply TD.pop1 (wn T) (iaP (xs:=([1000000000,1258925411,1584893192,1995262314,2511886431,3162277660,3981071705,5011872336,6309573444,7943282347]:List Int)) h2 rfl rfl so186 ar186 rfl ok3 cs3)
  repeat exact sd T
  refine wa_ T (g:=?_)
  apply TD.ld (wn T) rfl (Lg (p:=.v (.int .i64 v6)) (fo:=0) (f:=e_i) (xs:=([1000000000,1258925411,1584893192,1995262314,2511886431,3162277660,3981071705,5011872336,6309573444,7943282347]:List Int)) h2 rfl (fun _=>rfl) rfl (by simp only[fM,zz,y44,e_i,Nat.reduceAdd,Nat.reduceMul,Nat.reduceLeDiff,Nat.reduceEqDiff,h2l]<;>exact rfl))
  repeat exact sd T
  refine wa_ T (g:=?_)
  apply TD.pop1 (wn T) (iaP (xs:=([1000000000,1258925411,1584893192,1995262314,2511886431,3162277660,3981071705,5011872336,6309573444,7943282347]:List Int)) h2 rfl rfl so186 ar186 rfl ok3 cs3)
  repeat exact sd T
  refine wa_ T (g:=?_)
  apply TD.ld (wn T) rfl (Lg (p:=.v (.int .i64 v6)) (fo:=0) (f:=e_i) (xs:=([1000000000,1258925411,1584893192,1995262314,2511886431,3162277660,3981071705,5011872336,6309573444,7943282347]:List Int)) h2 rfl (fun _=>rfl) rfl (by simp only[fM,zz,y44,e_i,Nat.reduceAdd,Nat.reduceMul,Nat.reduceLeDiff,Nat.reduceEqDiff,h2l]<;>exact rfl))
  repeat exact sd T
  refine wa_ T (g:=?_)
  obtain⟨⟨v7,v8⟩,h3,hr⟩:=bs hr
  try dsimp only at hr
  apply TD.cal (wn T) rfl jW (bB h3) rfl rfl rfl
  repeat exact sd T
  refine wa_ T (g:=?_)
  rcases ifs hr with⟨h4,hr⟩|⟨h4,hr⟩
  ·have T:=an h4 T
   refine wA T (g:=?_)
   apply TD.pop1 (wn T) (oC rfl rfl)
   repeat exact sd T
   refine wa_ T (g:=?_)
   obtain⟨v9,h5,hr⟩:=bs hr
   apply TD.cal (wn T) rfl tG (fQ h5) rfl rfl rfl
   repeat exact sd T
   refine wa_ T (g:=?_)
   obtain⟨⟨v10,v11⟩,h6,hr⟩:=bs hr
   try dsimp only at hr
   apply TD.cal (wn T) rfl pJ (cF h6) rfl rfl rfl
   repeat exact sd T
   refine wa_ T (g:=?_)
   apply TD.pop1 (wn T) (zT rfl)
   repeat exact sd T
   refine wa_ T (g:=?_)
   apply TD.pop1 (wn T) (oC rfl rfl)
   repeat exact sd T
   refine wa_ T (g:=?_)
   obtain⟨v12,h7,hr⟩:=bs hr
   apply TD.cal (wn T) rfl tG (fQ h7) rfl rfl rfl
   repeat exact sd T
   refine wa_ T (g:=?_)
   cases hr
   refine⟨.inr rfl,_,(ry T),?_⟩
   exact wk_ T [] rfl .nil
  ·have T:=an h4 T
   refine wA T (g:=?_)
   apply TD.pop1 (wn T) (oC rfl rfl)
   repeat exact sd T
   refine wa_ T (g:=?_)
   obtain⟨v13,h8,hr⟩:=bs hr
   apply TD.cal (wn T) rfl tG (fQ h8) rfl rfl rfl
   repeat exact sd T
   refine wa_ T (g:=?_)
   obtain⟨⟨v14,v15⟩,h9,hr⟩:=bs hr
   try dsimp only at hr
   apply TD.cal (wn T) rfl pJ (cF h9) rfl rfl rfl
   repeat exact sd T
   refine wa_ T (g:=?_)
   apply TD.pop1 (wn T) (zT rfl)
   repeat exact sd T
   refine wa_ T (g:=?_)
   apply TD.pop1 (wn T) (oC rfl rfl)
   repeat exact sd T
   refine wa_ T (g:=?_)
   obtain⟨v16,h10,hr⟩:=bs hr
   apply TD.cal (wn T) rfl tG (fQ h10) rfl rfl rfl
   repeat exact sd T
   refine wa_ T (g:=?_)
   cases hr
   refine⟨.inr rfl,_,(ry T),?_⟩
   exact wk_ T [] rfl .nil
 rfl
end Go.Rex
namespace Go.Rex
open Go.Proofs
open Go Go.Rex Go.RowKit
set_option maxRecDepth 100000
set_option maxHeartbeats 200000
def y45:=an @ag3 <| an @cs100 <| an @iK <| an @Nr <| an @My <| an @mW <| an @ok100 <| @zc100
theorem jN{v1:Int}{v2:Int}{v3:Int}{v4:Bool}(hr:cZ v1 v2 v3=some (v4)):Spec (lim Tryz.prog) 64 [.agg [.v (.int .i64 v1),.v (.int .i64 v2)],.v (.int .i64 v3)] ⟨[.v (.bool v4)],[]⟩:=by
 unfold cZ at hr
 have T:=y45
 apply Spec.fn Tryz.func64 rfl
 focus (simp[Tryz.f64]<;>exact rfl)
 focus
  refine wb_ T (g:=?_)
  obtain⟨⟨v5,v6,v7⟩,h1,hr⟩:=bs hr
  try dsimp only at hr
  apply TO.cal (wn T) rfl Mf (nV h1) rfl rfl rfl
  repeat exact sd T
  refine wA T (g:=?_)
  obtain⟨⟨v8,v9⟩,h2,hr⟩:=bs hr
  try dsimp only at hr
  apply TD.cal (wn T) rfl pM (cW h2) rfl rfl rfl
  repeat exact sd T
  refine wA T (g:=?_)
  obtain⟨⟨v10,v11⟩,h3,hr⟩:=bs hr
  try dsimp only at hr
  apply TD.cal (wn T) rfl pM (cW h3) rfl rfl rfl
  repeat exact sd T
  refine wa_ T (g:=?_)
  obtain⟨v12,h4,hr⟩:=bs hr
  apply TD.cal (wn T) rfl Gi (gR h4) rfl rfl rfl
  repeat exact sd T
  refine wa_ T (g:=?_)
  cases hr
  refine⟨.inr rfl,_,(ry T),?_⟩
  exact wr [] rfl .nil
 rfl
def y46:=an @ag3 <| an @cs100 <| an @iK <| an @Nr <| an @My <| an @mQ <| an @ok100 <| @zc100
theorem jQ{v1:Int}{v2:Int}{v3:Int}{v4:Bool}(hr:bN v1 v2 v3=some (v4)):Spec (lim Tryz.prog) 65 [.agg [.v (.int .i64 v1),.v (.int .i64 v2)],.v (.int .i64 v3)] ⟨[.v (.bool v4)],[]⟩:=by
 unfold bN at hr
 have T:=y46
 apply Spec.fn Tryz.func65 rfl
 focus (simp[Tryz.f65]<;>exact rfl)
 focus
  refine wb_ T (g:=?_)
  obtain⟨⟨v5,v6,v7⟩,h1,hr⟩:=bs hr
  try dsimp only at hr
  apply TO.cal (wn T) rfl Mf (nV h1) rfl rfl rfl
  repeat exact sd T
  refine wA T (g:=?_)
  obtain⟨⟨v8,v9⟩,h2,hr⟩:=bs hr
  try dsimp only at hr
  apply TD.cal (wn T) rfl pM (cW h2) rfl rfl rfl
  repeat exact sd T
  refine wA T (g:=?_)
  obtain⟨⟨v10,v11⟩,h3,hr⟩:=bs hr
  try dsimp only at hr
  apply TD.cal (wn T) rfl pM (cW h3) rfl rfl rfl
  repeat exact sd T
  refine wa_ T (g:=?_)
  obtain⟨v12,h4,hr⟩:=bs hr
  apply TD.cal (wn T) rfl Gi (gR h4) rfl rfl rfl
  repeat exact sd T
  refine wa_ T (g:=?_)
  cases hr
  refine⟨.inr rfl,_,(ry T),?_⟩
  exact wr [] rfl .nil
 rfl
end Go.Rex
namespace Go.Rex
open Go.Proofs
open Go Go.Rex Go.RowKit
set_option maxRecDepth 100000
set_option maxHeartbeats 1000000
def y47:=an @ag112 <| an @ag3 <| an @ag30 <| an @cs112 <| an @cs3 <| an @cs30 <| an @cs31 <| an @mQ <| an @mW <| an @ok112 <| an @ok3 <| an @ok30 <| an @so149 <| an @st112 <| an @st30 <| an @zc112 <| an @zc30 <| an @zc31 <| an @Kp <| @Qo
theorem iQ{v1:Int}{v2:Int}{v3:Int}{v4:Int}{v5:Int}(hr:bL v1 v2=some (v3,v4,v5)):Spec (lim Tryz.prog) 23 [.v (.int .i64 v1),.v (.int .i64 v2)] ⟨[.tuple [.agg [.v (.int .i64 v3),.v (.int .i64 v4)],.v (.int .i64 v5)]],[]⟩:=by
 unfold bL at hr
 have T:=an y47 <| @e_i.eq_1
 apply Spec.fn Tryz.func23 rfl
 focus (simp[Tryz.f23]<;>exact rfl)
 focus
  refine wa_ T (g:=?_)
  obtain⟨v6,h1,hr⟩:=bs hr
  apply TO.cal (wn T) rfl wZ (fA h1) rfl rfl rfl
  repeat exact sd T
  refine wa_ T (g:=?_)
  obtain⟨v7,h2,hr⟩:=bs hr
  apply TO.cal (wn T) rfl wZ (fA h2) rfl rfl rfl
  repeat exact sd T
  refine wa_ T (g:=?_)
  apply TO.bm e_i ([v6,v7]:List Int) (wn T) rfl (by simp only[zz,y47,e_i,Nat.reduceAdd,Nat.reduceMul,Nat.reduceLeDiff,Nat.reduceEqDiff,tslice,tparts];exact rfl) rfl
  repeat exact sd T
  refine wa_ T (g:=?_)
  obtain⟨v8,h3,hr⟩:=bs hr
  apply TO.cal (wn T) rfl oS (bG h3) rfl rfl rfl
  repeat exact sd T
  refine wa_ T (g:=?_)
  rcases ifs hr with⟨h4,hr⟩|⟨h4,hr⟩
  ·have T:=an h4 T
   refine wa_ T (g:=?_)
   cases hr
   refine⟨.inr rfl,_,(ry T),?_⟩
   exact wk_ T [] rfl .nil
  ·have T:=an h4 T
   refine wA T (g:=?_)
   obtain⟨v9,h5,hr⟩:=bs hr
   apply TO.cal (wn T) rfl Rv (jN h5) rfl rfl rfl
   repeat exact sd T
   refine wa_ T (g:=?_)
   apply TO.pop1 (wn T) (fS rfl)
   repeat exact sd T
   refine wa_ T (g:=?_)
   rcases ifs hr with⟨h6,hr⟩|⟨h6,hr⟩
   ·have T:=an h6 T
    refine wA T (g:=?_)
    obtain⟨v10,h7,hr⟩:=bs hr
    apply TO.cal (wn T) rfl Ta (jQ h7) rfl rfl rfl
    repeat exact sd T
    refine wa_ T (g:=?_)
    apply TO.pop1 (wn T) (fS rfl)
    repeat exact sd T
    refine wa_ T (g:=?_)
    rcases ifs hr with⟨h8,hr⟩|⟨h8,hr⟩
    ·have T:=an h8 T
     refine wa_ T (g:=?_)
     obtain⟨v15,h13,hr⟩:=bs hr
     refine TX.loopE (step:=eS v1 v2) (x:=(-90)) h13 (fun v11=>⟨.Z::.Z::.Z::.Z::.lptr 0 0 0::.Z::.Z::.lptr 1 0 0::.lptr 2 0 0::.Z::.Z::.Z::.Z::.Z::.Z::.Z::.Z::.Z::.Z::.Z::.Z::.Z::.Z::.Z::.Z::.Z::.Z::.Z::.Z::.Z::.Z::.Z::.Z::.Z::.Z::.Z::.Z::.Z::.Z::.Z::.Z::.Z::.Z::.Z::.Z::.Z::.Z::.Z::.Z::.Z::.Z::[],[.var [.v (.int .i64 0),.v (.int .i64 0)],.var [.v (.int .i64 v1),.v (.int .i64 v2)],.var [.v (.int .i64 v11),.v (.int .i64 90)]]⟩) (fun v13=>(.exit 0,⟨.Z::.Z::.Z::.Z::.lptr 0 0 0::.Z::.Z::.lptr 1 0 0::.lptr 2 0 0::.Z::.Z::.Z::.Z::.Z::.Z::.Z::.Z::.Z::.Z::.Z::.Z::.Z::.Z::.Z::.Z::.Z::.Z::.Z::.Z::.Z::.Z::.Z::.Z::.Z::.Z::.Z::.Z::.Z::.Z::.Z::.Z::.Z::.Z::.Z::.Z::.Z::.Z::.Z::.Z::.Z::.Z::[],[.var [.v (.int .i64 0),.v (.int .i64 0)],.var [.v (.int .i64 v1),.v (.int .i64 v2)],.var [.v (.int .i64 v13),.v (.int .i64 90)]]⟩)) ?_ ?_ ?_ ?_
     ·rintro v11 v0 hr
      dsimp only[eS] at hr
      try dsimp only
      refine wA T (g:=?_)
      obtain⟨v14,h11,hr⟩:=bs hr
      apply TO.cal (wn T) rfl Rv (jN h11) rfl rfl rfl
      repeat exact sd T
      refine wa_ T (g:=?_)
      rcases ifs hr with⟨h12,hr⟩|⟨h12,hr⟩
      ·have T:=an h12 T
       refine wA T (g:=?_)
       cases hr
       refine⟨rfl,?_⟩
       exact wk_ T [some 0,some 1,some 2] rfl (rv (rv (rv .nil rfl) rfl) rfl)
      ·have T:=an h12 T
       refine wa_ T (g:=?_)
       cases hr
       refine⟨rfl,?_⟩
       exact wk_ T [some 0,some 1,some 2] rfl (rv (rv (rv .nil rfl) rfl) rfl)
     ·intro e h;cases h
     ·try dsimp only
      refine wa_ T (g:=?_)
      obtain⟨v20,h18,hr⟩:=bs hr
      refine TX.loopE (step:=eT v1 v2) (x:=90) h18 (fun v16=>⟨.Z::.Z::.Z::.Z::.lptr 0 0 0::.Z::.Z::.lptr 1 0 0::.lptr 2 0 0::.Z::.Z::.Z::.Z::.Z::.Z::.Z::.Z::.Z::.Z::.Z::.Z::.Z::.Z::.Z::.Z::.Z::.Z::.Z::.Z::.Z::.Z::.Z::.Z::.Z::.Z::.Z::.Z::.Z::.Z::.Z::.Z::.Z::.Z::.Z::.Z::.Z::.Z::.Z::.Z::.Z::.Z::[],[.var [.v (.int .i64 0),.v (.int .i64 0)],.var [.v (.int .i64 v1),.v (.int .i64 v2)],.var [.v (.int .i64 v15),.v (.int .i64 v16)]]⟩) (fun v18=>(.exit 2,⟨.Z::.Z::.Z::.Z::.lptr 0 0 0::.Z::.Z::.Z::.lptr 1 0 0::.Z::.Z::.Z::.Z::.Z::.Z::.Z::.Z::.Z::.Z::.Z::.Z::.Z::.Z::.Z::.Z::.Z::.Z::.Z::.Z::.Z::.Z::.Z::.Z::.Z::.Z::.Z::.Z::.Z::.Z::.Z::.Z::.Z::.Z::.Z::.Z::.Z::.Z::.Z::.Z::.Z::.Z::[],[.var [.v (.int .i64 0),.v (.int .i64 0)],.var [.v (.int .i64 v15),.v (.int .i64 v18)]]⟩)) ?_ ?_ ?_ ?_
      ·rintro v16 v0 hr
       dsimp only[eT] at hr
       try dsimp only
       refine wA T (g:=?_)
       obtain⟨v19,h16,hr⟩:=bs hr
       apply TO.cal (wn T) rfl Ta (jQ h16) rfl rfl rfl
       repeat exact sd T
       refine wa_ T (g:=?_)
       rcases ifs hr with⟨h17,hr⟩|⟨h17,hr⟩
       ·have T:=an h17 T
        refine wA T (g:=?_)
        cases hr
        refine⟨rfl,?_⟩
        exact wk_ T [some 0,some 1,some 2] rfl (rv (rv (rv .nil rfl) rfl) rfl)
       ·have T:=an h17 T
        refine wa_ T (g:=?_)
        cases hr
        refine⟨rfl,?_⟩
        exact wk_ T [some 0,some 2] rfl (rv (rv .nil rfl) rfl)
      ·intro e h;cases h
      ·try dsimp only
       refine wA T (g:=?_)
       cases hr
       refine⟨.inr rfl,_,(ry T),?_⟩
       exact wk_ T [] rfl .nil
      ·try dsimp only
       exact wk_ T [some 0,some 1,some 2] rfl (rv (rv (rv .nil rfl) rfl) rfl)
     ·try dsimp only
      exact wk_ T [some 0,some 1,some 2] rfl (rv (rv (rv .nil rfl) rfl) rfl)
    ·have T:=an h8 T
     refine wa_ T (g:=?_)
     cases hr
     refine⟨.inr rfl,_,(ry T),?_⟩
     exact wk_ T [] rfl .nil
   ·have T:=an h6 T
    refine wa_ T (g:=?_)
    cases hr
    refine⟨.inr rfl,_,(ry T),?_⟩
    exact wk_ T [] rfl .nil
 rfl
def y48:=an @ag100 <| an @ag3 <| an @ag94 <| an @cs100 <| an @cs30 <| an @cs31 <| an @cs94 <| an @iK <| an @uN <| an @pU <| an @mQ <| an @mW <| an @uA <| an @ok100 <| an @ok30 <| an @ok94 <| an @so149 <| an @st100 <| an @zc100 <| an @zc30 <| @zc31
theorem oW{v1:Int}{v2:(List Nat)}{v3:Int}{v4:Int}{v5:Int}{v6:Int}{v7:Int}{v8:Int}(hr:fK v1 v2 v3 v4 v5=some (v6,v7,v8)):Spec (lim Tryz.prog) 68 [.agg [.v (.int .i64 v1),.list 1 (v2.map e_f),.v (.int .i64 v3),.v (.int .i64 v4)],.v (.int .i64 v5)] ⟨[.tuple [.agg [.v (.int .i64 v6),.v (.int .i64 v7)],.v (.int .i64 v8)]],[]⟩:=by
 unfold fK at hr
 have T:=an y48 <| an @e_f.eq_1 <| @e_i.eq_1
 apply Spec.fn Tryz.func68 rfl
 focus (simp[Tryz.f68]<;>exact rfl)
 focus
  refine wB T (g:=?_)
  obtain⟨⟨v9,v10⟩,h1,hr⟩:=bs hr
  try dsimp only at hr
  apply TD.cal (wn T) rfl Ue (kZ h1) rfl rfl rfl
  repeat exact sd T
  refine wA T (g:=?_)
  obtain⟨⟨v11,v12⟩,h2,hr⟩:=bs hr
  try dsimp only at hr
  apply TD.cal (wn T) rfl Ny (lP h2) rfl rfl rfl
  repeat exact sd T
  refine wA T (g:=?_)
  obtain⟨v13,h3,hr⟩:=bs hr
  apply TD.cal (wn T) rfl Nm (nE h3) rfl rfl rfl
  repeat exact sd T
  refine wA T (g:=?_)
  obtain⟨v14,h4,hr⟩:=bs hr
  apply TD.cal (wn T) rfl pG (cB h4) rfl rfl rfl
  repeat exact sd T
  refine wa_ T (g:=?_)
  obtain⟨v15,h5,hr⟩:=bs hr
  apply TD.cal (wn T) rfl lR (bF h5) rfl rfl rfl
  repeat exact sd T
  refine wA T (g:=?_)
  rcases ifs hr with⟨h6,hr⟩|⟨h6,hr⟩
  ·have T:=an h6 T
   refine wa_ T (g:=?_)
   obtain⟨v16,h7,hr⟩:=bs hr
   apply TD.cal (wn T) rfl lR (bF h7) rfl rfl rfl
   repeat exact sd T
   refine wa_ T (g:=?_)
   apply TD.bm e_i ([v15,v16]:List Int) (wn T) rfl (by simp only[zz,y48,e_f,e_i,Nat.reduceAdd,Nat.reduceMul,Nat.reduceLeDiff,Nat.reduceEqDiff,tslice,tparts,h6];exact rfl) rfl
   repeat exact sd T
   refine wa_ T (g:=?_)
   obtain⟨v17,h8,hr⟩:=bs hr
   apply TD.cal (wn T) rfl oS (bG h8) rfl rfl rfl
   repeat exact sd T
   refine wa_ T (g:=?_)
   rcases ifs hr with⟨h9,hr⟩|⟨h9,hr⟩
   ·have T:=an h9 T
    refine wa_ T (g:=?_)
    cases hr
    refine⟨.inr rfl,_,(ry T),?_⟩
    exact wk_ T [] rfl .nil
   ·have T:=an h9 T
    refine wA T (g:=?_)
    obtain⟨⟨v18,v19,v20⟩,h10,hr⟩:=bs hr
    try dsimp only at hr
    apply TO.cal (wn T) rfl Ef (iQ h10) rfl rfl rfl
    repeat exact sd T
    refine wa_ T (g:=?_)
    rcases ifs hr with⟨h11,hr⟩|⟨h11,hr⟩
    ·have T:=an h11 T
     refine wa_ T (g:=?_)
     cases hr
     refine⟨.inr rfl,_,(ry T),?_⟩
     exact wk_ T [] rfl .nil
    ·have T:=an h11 T
     refine wA T (g:=?_)
     obtain⟨⟨v21,v22,v23⟩,h12,hr⟩:=bs hr
     try dsimp only at hr
     apply TO.cal (wn T) rfl Ef (iQ h12) rfl rfl rfl
     repeat exact sd T
     refine wa_ T (g:=?_)
     rcases ifs hr with⟨h13,hr⟩|⟨h13,hr⟩
     ·have T:=an h13 T
      refine wa_ T (g:=?_)
      cases hr
      refine⟨.inr rfl,_,(ry T),?_⟩
      exact wk_ T [] rfl .nil
     ·have T:=an h13 T
      refine wA T (g:=?_)
      obtain⟨⟨v24,v25⟩,h14,hr⟩:=bs hr
      try dsimp only at hr
      apply TO.cal (wn T) rfl jW (bB h14) rfl rfl rfl
      repeat exact sd T
      refine wa_ T (g:=?_)
      cases hr
      refine⟨.inr rfl,_,(ry T),?_⟩
      exact wk_ T [] rfl .nil
  ·have T:=an h6 T
   refine wA T (g:=?_)
   obtain⟨v26,h15,hr⟩:=bs hr
   apply TD.cal (wn T) rfl lR (bF h15) rfl rfl rfl
   repeat exact sd T
   refine wa_ T (g:=?_)
   apply TD.bm e_i ([v15,v26]:List Int) (wn T) rfl (by simp only[zz,y48,e_f,e_i,Nat.reduceAdd,Nat.reduceMul,Nat.reduceLeDiff,Nat.reduceEqDiff,tslice,tparts,h6];exact rfl) rfl
   repeat exact sd T
   refine wa_ T (g:=?_)
   obtain⟨v27,h16,hr⟩:=bs hr
   apply TD.cal (wn T) rfl oS (bG h16) rfl rfl rfl
   repeat exact sd T
   refine wa_ T (g:=?_)
   rcases ifs hr with⟨h17,hr⟩|⟨h17,hr⟩
   ·have T:=an h17 T
    refine wa_ T (g:=?_)
    cases hr
    refine⟨.inr rfl,_,(ry T),?_⟩
    exact wk_ T [] rfl .nil
   ·have T:=an h17 T
    refine wA T (g:=?_)
    obtain⟨⟨v28,v29,v30⟩,h18,hr⟩:=bs hr
    try dsimp only at hr
    apply TO.cal (wn T) rfl Ef (iQ h18) rfl rfl rfl
    repeat exact sd T
    refine wa_ T (g:=?_)
    rcases ifs hr with⟨h19,hr⟩|⟨h19,hr⟩
    ·have T:=an h19 T
     refine wa_ T (g:=?_)
     cases hr
     refine⟨.inr rfl,_,(ry T),?_⟩
     exact wk_ T [] rfl .nil
    ·have T:=an h19 T
     refine wA T (g:=?_)
     obtain⟨⟨v31,v32,v33⟩,h20,hr⟩:=bs hr
     try dsimp only at hr
     apply TO.cal (wn T) rfl Ef (iQ h20) rfl rfl rfl
     repeat exact sd T
     refine wa_ T (g:=?_)
     rcases ifs hr with⟨h21,hr⟩|⟨h21,hr⟩
     ·have T:=an h21 T
      refine wa_ T (g:=?_)
      cases hr
      refine⟨.inr rfl,_,(ry T),?_⟩
      exact wk_ T [] rfl .nil
     ·have T:=an h21 T
      refine wA T (g:=?_)
      obtain⟨⟨v34,v35⟩,h22,hr⟩:=bs hr
      try dsimp only at hr
      apply TO.cal (wn T) rfl jW (bB h22) rfl rfl rfl
      repeat exact sd T
      refine wa_ T (g:=?_)
      cases hr
      refine⟨.inr rfl,_,(ry T),?_⟩
      exact wk_ T [] rfl .nil
 rfl
end Go.Rex
namespace Go.Rex
open Go.Proofs
open Go Go.Rex Go.RowKit
set_option maxRecDepth 100000
set_option maxHeartbeats 200000
def y49:=an @ag26 <| an @ag30 <| an @ag94 <| an @cs100 <| an @cs26 <| an @cs30 <| an @cs31 <| an @cs94 <| an @iK <| an @ok100 <| an @ok26 <| an @ok30 <| an @ok94 <| an @so149 <| an @st30 <| an @zc100 <| an @zc30 <| an @zc31 <| @zc94
theorem nY{v1:Int}{v2:(List Nat)}{v3:Int}{v4:Int}{v5:Int}{v6:Int}{v7:Int}{v8:Int}(hr:dV v1 v2 v3 v4 v5=some (v6,v7,v8)):Spec (lim Tryz.prog) 26 [.agg [.v (.int .i64 v1),.list 1 (v2.map e_f),.v (.int .i64 v3),.v (.int .i64 v4)],.v (.int .i64 v5)] ⟨[.tuple [.agg [.v (.int .i64 v6),.v (.int .i64 v7)],.v (.int .i64 v8)]],[]⟩:=by
 unfold dV at hr
 have T:=an y49 <| an @e_f.eq_1 <| @e_i.eq_1
 apply Spec.fn Tryz.func26 rfl
 focus (simp[Tryz.f26]<;>exact rfl)
 focus
  refine wB T (g:=?_)
  obtain⟨⟨v9,v10,v11,v12,v13⟩,h1,hr⟩:=bs hr
  try dsimp only at hr
  apply TO.cal (wn T) rfl Ec (kK h1) rfl rfl rfl
  repeat exact sd T
  refine wa_ T (g:=?_)
  obtain⟨v14,h2,hr⟩:=bs hr
  apply TO.cal (wn T) rfl Tp (mJ h2) rfl rfl rfl
  repeat exact sd T
  refine wa_ T (g:=?_)
  apply TO.bm e_i ([v13,v14]:List Int) (wn T) rfl (by simp only[zz,y49,e_f,e_i,Nat.reduceAdd,Nat.reduceMul,Nat.reduceLeDiff,Nat.reduceEqDiff,tslice,tparts];exact rfl) rfl
  repeat exact sd T
  refine wa_ T (g:=?_)
  obtain⟨v15,h3,hr⟩:=bs hr
  apply TO.cal (wn T) rfl oS (bG h3) rfl rfl rfl
  repeat exact sd T
  refine wa_ T (g:=?_)
  rcases ifs hr with⟨h4,hr⟩|⟨h4,hr⟩
  ·have T:=an h4 T
   refine wa_ T (g:=?_)
   cases hr
   refine⟨.inr rfl,_,(ry T),?_⟩
   exact wk_ T [] rfl .nil
  ·have T:=an h4 T
   refine wA T (g:=?_)
   obtain⟨⟨v16,v17,v18⟩,h5,hr⟩:=bs hr
   try dsimp only at hr
   apply TO.cal (wn T) rfl Yg (oW h5) rfl rfl rfl
   repeat exact sd T
   refine wA T (g:=?_)
   cases hr
   refine⟨.inr rfl,_,(ry T),?_⟩
   exact wk_ T [] rfl .nil
 rfl
end Go.Rex
namespace Go.Rex
open Go.Proofs
open Go Go.Rex Go.RowKit
set_option maxRecDepth 100000
set_option maxHeartbeats 1000000
def y50:=an @ag100 <| an @ag3 <| an @ag94 <| an @cs100 <| an @cs94 <| an @iK <| an @mQ <| an @mW <| an @ok100 <| an @ok94 <| an @st100 <| @zc100
theorem nQ{v1:Int}{v2:(List Nat)}{v3:Int}{v4:Int}{v5:Int}{v6:Int}{v7:Int}{v8:Int}(hr:eG v1 v2 v3 v4 v5=some (v6,v7,v8)):Spec (lim Tryz.prog) 74 [.agg [.v (.int .i64 v1),.list 1 (v2.map e_f),.v (.int .i64 v3),.v (.int .i64 v4)],.v (.int .i64 v5)] ⟨[.tuple [.agg [.v (.int .i64 v6),.v (.int .i64 v7)],.v (.int .i64 v8)]],[]⟩:=by
 unfold eG at hr
 have T:=an y50 <| @e_f.eq_1
 apply Spec.fn Tryz.func74 rfl
 focus (simp[Tryz.f74]<;>exact rfl)
 focus
  refine wB T (g:=?_)
  obtain⟨⟨v9,v10⟩,h1,hr⟩:=bs hr
  try dsimp only at hr
  apply TD.cal (wn T) rfl Ue (kZ h1) rfl rfl rfl
  repeat exact sd T
  refine wA T (g:=?_)
  obtain⟨⟨v11,v12⟩,h2,hr⟩:=bs hr
  try dsimp only at hr
  apply TD.cal (wn T) rfl Ny (lP h2) rfl rfl rfl
  repeat exact sd T
  refine wA T (g:=?_)
  rcases ifs hr with⟨h3,hr⟩|⟨h3,hr⟩
  ·have T:=an h3 T
   refine wA T (g:=?_)
   rcases ifs hr with⟨h4,hr⟩|⟨h4,hr⟩
   ·have T:=an h4 T
    refine wa_ T (g:=?_)
    cases hr
    refine⟨.inr rfl,_,(ry T),?_⟩
    exact wk_ T [] rfl .nil
   ·have T:=an h4 T
    refine wA T (g:=?_)
    obtain⟨⟨v13,v14⟩,h5,hr⟩:=bs hr
    try dsimp only at hr
    apply TO.cal (wn T) rfl pJ (cF h5) rfl rfl rfl
    repeat exact sd T
    refine wA T (g:=?_)
    obtain⟨v15,h6,hr⟩:=bs hr
    apply TD.cal (wn T) rfl Fp (mP h6) rfl rfl rfl
    repeat exact sd T
    refine wA T (g:=?_)
    obtain⟨v16,h7,hr⟩:=bs hr
    apply TD.cal (wn T) rfl zL (lT h7) rfl rfl rfl
    repeat exact sd T
    refine wa_ T (g:=?_)
    obtain⟨⟨v17,v18⟩,h8,hr⟩:=bs hr
    try dsimp only at hr
    apply TD.cal (wn T) rfl jW (bB h8) rfl rfl rfl
    repeat exact sd T
    refine wa_ T (g:=?_)
    cases hr
    refine⟨.inr rfl,_,(ry T),?_⟩
    exact wk_ T [] rfl .nil
  ·have T:=an h3 T
   refine wA T (g:=?_)
   obtain⟨⟨v19,v20⟩,h9,hr⟩:=bs hr
   try dsimp only at hr
   apply TO.cal (wn T) rfl pJ (cF h9) rfl rfl rfl
   repeat exact sd T
   refine wA T (g:=?_)
   obtain⟨v21,h10,hr⟩:=bs hr
   apply TD.cal (wn T) rfl Fp (mP h10) rfl rfl rfl
   repeat exact sd T
   refine wA T (g:=?_)
   obtain⟨v22,h11,hr⟩:=bs hr
   apply TD.cal (wn T) rfl zL (lT h11) rfl rfl rfl
   repeat exact sd T
   refine wa_ T (g:=?_)
   obtain⟨⟨v23,v24⟩,h12,hr⟩:=bs hr
   try dsimp only at hr
   apply TD.cal (wn T) rfl jW (bB h12) rfl rfl rfl
   repeat exact sd T
   refine wa_ T (g:=?_)
   cases hr
   refine⟨.inr rfl,_,(ry T),?_⟩
   exact wk_ T [] rfl .nil
 rfl
end Go.Rex
namespace Go.Rex
open Go.Proofs
open Go Go.Rex Go.RowKit
set_option maxRecDepth 100000
set_option maxHeartbeats 200000
def y51:=an @ag26 <| an @ag30 <| an @ag94 <| an @cs100 <| an @cs26 <| an @cs30 <| an @cs31 <| an @cs94 <| an @iK <| an @ok100 <| an @ok26 <| an @ok30 <| an @ok94 <| an @so149 <| an @st30 <| an @zc100 <| an @zc30 <| an @zc31 <| @zc94
theorem cE{v1:Int}{v2:(List Nat)}{v3:Int}{v4:Int}{v5:Int}{v6:Int}{v7:Int}{v8:Int}(hr:bD v1 v2 v3 v4 v5=some (v6,v7,v8)):Spec (lim Tryz.prog) 30 [.agg [.v (.int .i64 v1),.list 1 (v2.map e_f),.v (.int .i64 v3),.v (.int .i64 v4)],.v (.int .i64 v5)] ⟨[.tuple [.agg [.v (.int .i64 v6),.v (.int .i64 v7)],.v (.int .i64 v8)]],[]⟩:=by
 unfold bD at hr
 have T:=an y51 <| an @e_f.eq_1 <| @e_i.eq_1
 apply Spec.fn Tryz.func30 rfl
 focus (simp[Tryz.f30]<;>exact rfl)
 focus
  refine wB T (g:=?_)
  obtain⟨⟨v9,v10,v11,v12,v13⟩,h1,hr⟩:=bs hr
  try dsimp only at hr
  apply TO.cal (wn T) rfl Ec (kK h1) rfl rfl rfl
  repeat exact sd T
  refine wa_ T (g:=?_)
  obtain⟨v14,h2,hr⟩:=bs hr
  apply TO.cal (wn T) rfl Tp (mJ h2) rfl rfl rfl
  repeat exact sd T
  refine wa_ T (g:=?_)
  apply TO.bm e_i ([v13,v14]:List Int) (wn T) rfl (by simp only[zz,y51,e_f,e_i,Nat.reduceAdd,Nat.reduceMul,Nat.reduceLeDiff,Nat.reduceEqDiff,tslice,tparts];exact rfl) rfl
  repeat exact sd T
  refine wa_ T (g:=?_)
  obtain⟨v15,h3,hr⟩:=bs hr
  apply TO.cal (wn T) rfl oS (bG h3) rfl rfl rfl
  repeat exact sd T
  refine wa_ T (g:=?_)
  rcases ifs hr with⟨h4,hr⟩|⟨h4,hr⟩
  ·have T:=an h4 T
   refine wa_ T (g:=?_)
   cases hr
   refine⟨.inr rfl,_,(ry T),?_⟩
   exact wk_ T [] rfl .nil
  ·have T:=an h4 T
   refine wA T (g:=?_)
   obtain⟨⟨v16,v17,v18⟩,h5,hr⟩:=bs hr
   try dsimp only at hr
   apply TO.cal (wn T) rfl Xv (nQ h5) rfl rfl rfl
   repeat exact sd T
   refine wA T (g:=?_)
   cases hr
   refine⟨.inr rfl,_,(ry T),?_⟩
   exact wk_ T [] rfl .nil
 rfl
def y52:=an @ag100 <| an @ag94 <| an @cs100 <| an @cs94 <| an @ok100 <| an @ok94 <| an @zc100 <| @nJ
theorem pY{v1:Int}{v2:(List Nat)}{v3:Int}{v4:Int}{v5:Int}{v6:Int}(hr:gB v1 v2 v3 v4=some (v5,v6)):Spec (lim Tryz.prog) 134 [.agg [.v (.int .i64 v1),.list 1 (v2.map e_f),.v (.int .i64 v3),.v (.int .i64 v4)]] ⟨[.agg [.v (.int .i64 v5),.v (.int .i64 v6)]],[]⟩:=by
 unfold gB at hr
 have T:=an y52 <| @e_f.eq_1
 apply Spec.fn Tryz.func134 rfl
 focus (simp[Tryz.f134]<;>exact rfl)
 focus
  refine wB T (g:=?_)
  obtain⟨v7,h1,hr⟩:=bs hr
  apply TO.cal (wn T) rfl pG (cB h1) rfl rfl rfl
  repeat exact sd T
  refine wa_ T (g:=?_)
  obtain⟨⟨v25,v26⟩,h10,hr⟩:=bs hr
  try dsimp only at hr
  refine TX.loopE (step:=dG v1 v2 v3 v4 v7) (x:=(0,0,0)) h10 (fun (v8,v9,v10)=>⟨.Z::.fptr true [.v (.int .i64 v1),.list 1 (v2.map e_f),.v (.int .i64 v3),.v (.int .i64 v4)] 0::.lptr 0 0 0::.lptr 1 0 0::.Z::.Z::.v (.int .i64 v7)::.v (.int .i64 v10)::.Z::.Z::.Z::.Z::.Z::.Z::.Z::.Z::.Z::.Z::.Z::[],[.var [.v (.int .i64 0),.v (.int .i64 0)],.var [.v (.int .i64 v8),.v (.int .i64 v9)]]⟩) (fun (v17,v18)=>(.exit 0,⟨.Z::.Z::.lptr 0 0 0::.lptr 1 0 0::.Z::.Z::.Z::.Z::.Z::.Z::.Z::.Z::.Z::.Z::.Z::.Z::.Z::.Z::.Z::[],[.var [.v (.int .i64 0),.v (.int .i64 0)],.var [.v (.int .i64 v17),.v (.int .i64 v18)]]⟩)) ?_ ?_ ?_ ?_
  ·rintro⟨v8,v9,v10⟩ v0 hr
   dsimp only[dG] at hr
   try dsimp only
   refine wa_ T (g:=?_)
   rcases ifs hr with⟨h6,hr⟩|⟨h6,hr⟩
   ·have T:=an h6 T
    refine wA T (g:=?_)
    obtain⟨⟨v19,v20⟩,h7,hr⟩:=bs hr
    try dsimp only at hr
    apply TD.cal (wn T) rfl En (iM h7) rfl rfl rfl
    repeat exact sd T
    refine wa_ T (g:=?_)
    obtain⟨⟨v21,v22⟩,h8,hr⟩:=bs hr
    try dsimp only at hr
    apply TD.cal (wn T) rfl pJ (cF h8) rfl rfl rfl
    repeat exact sd T
    refine wa_ T (g:=?_)
    obtain⟨⟨v23,v24⟩,h9,hr⟩:=bs hr
    try dsimp only at hr
    apply TD.cal (wn T) rfl Eu (jU h9) rfl rfl rfl
    repeat exact sd T
    refine wa_ T (g:=?_)
    cases hr
    refine⟨rfl,?_⟩
    exact wk_ T [some 0,some 1] rfl (rv (rv .nil rfl) rfl)
   ·have T:=an h6 T
    refine wa_ T (g:=?_)
    cases hr
    refine⟨rfl,?_⟩
    exact wk_ T [some 0,some 1] rfl (rv (rv .nil rfl) rfl)
  ·intro e h;cases h
  ·try dsimp only
   refine wA T (g:=?_)
   cases hr
   refine⟨.inr rfl,_,(ry T),?_⟩
   exact wr [] rfl .nil
  ·try dsimp only
   exact wr [some 0,some 1] rfl (rv (rv .nil rfl) rfl)
 rfl
end Go.Rex
namespace Go.Rex
open Go.Proofs
open Go Go.Rex Go.RowKit
set_option maxRecDepth 100000
set_option maxHeartbeats 1000000
def y53:=an @un122 <| an @un3 <| an @un5 <| an @us9 <| an @Qj <| an @Re <| an @Pr <| an @Kx <| an @Py <| @Pf
theorem sJ{v1:Int}{v2:Int}(hr:gX v1=some (v2)):Spec (lim Tryz.prog) 181 [.v (.int .u64 v1)] ⟨[.v (.int .i64 v2)],[]⟩:=by
 unfold gX at hr
 have T:=y53
 apply Spec.fn Tryz.func181 rfl
 focus (simp[Tryz.f181]<;>exact rfl)
 focus
  refine wa_ T (g:=?_)
  rcases ifs hr with⟨h1,hr⟩|⟨h1,hr⟩
  ·have T:=an h1 T
   refine wa_ T (g:=?_)
   obtain⟨v3,h2,hr⟩:=bs hr
   apply TO.pop1 (wn T) (dF rfl rfl (by decide) (h2))
   repeat exact sd T
   refine wa_ T (g:=?_)
   rcases ifs hr with⟨h3,hr⟩|⟨h3,hr⟩
   ·have T:=an h3 T
    refine wa_ T (g:=?_)
    obtain⟨v4,h4,hr⟩:=bs hr
    apply TO.pop1 (wn T) (dF rfl rfl (by decide) (h4))
    repeat exact sd T
    refine wa_ T (g:=?_)
    rcases ifs hr with⟨h5,hr⟩|⟨h5,hr⟩
    ·have T:=an h5 T
     refine wa_ T (g:=?_)
     obtain⟨v5,h6,hr⟩:=bs hr
     apply TO.pop1 (wn T) (dF rfl rfl (by decide) (h6))
     repeat exact sd T
     refine wa_ T (g:=?_)
     apply TO.pop1 (wn T) (bT un122 un5 rfl)
     repeat exact sd T
     refine wa_ T (g:=?_)
     obtain⟨v6,h7,hr⟩:=bs hr
     apply TO.pop1 (wn T) (lG rfl rfl us9 h7)
     repeat exact sd T
     refine wa_ T (g:=?_)
     apply TO.pop1 (wn T) (bT un5 un3 rfl)
     repeat exact sd T
     refine wa_ T (g:=?_)
     cases hr
     refine⟨.inr rfl,_,(ry T),?_⟩
     exact wk_ T [] rfl .nil
    ·have T:=an h5 T
     refine wa_ T (g:=?_)
     apply TO.pop1 (wn T) (bT un122 un5 rfl)
     repeat exact sd T
     refine wa_ T (g:=?_)
     obtain⟨v7,h8,hr⟩:=bs hr
     apply TO.pop1 (wn T) (lG rfl rfl us9 h8)
     repeat exact sd T
     refine wa_ T (g:=?_)
     apply TO.pop1 (wn T) (bT un5 un3 rfl)
     repeat exact sd T
     refine wa_ T (g:=?_)
     cases hr
     refine⟨.inr rfl,_,(ry T),?_⟩
     exact wk_ T [] rfl .nil
   ·have T:=an h3 T
    refine wa_ T (g:=?_)
    rcases ifs hr with⟨h9,hr⟩|⟨h9,hr⟩
    ·have T:=an h9 T
     refine wa_ T (g:=?_)
     obtain⟨v8,h10,hr⟩:=bs hr
     apply TO.pop1 (wn T) (dF rfl rfl (by decide) (h10))
     repeat exact sd T
     refine wa_ T (g:=?_)
     apply TO.pop1 (wn T) (bT un122 un5 rfl)
     repeat exact sd T
     refine wa_ T (g:=?_)
     obtain⟨v9,h11,hr⟩:=bs hr
     apply TO.pop1 (wn T) (lG rfl rfl us9 h11)
     repeat exact sd T
     refine wa_ T (g:=?_)
     apply TO.pop1 (wn T) (bT un5 un3 rfl)
     repeat exact sd T
     refine wa_ T (g:=?_)
     cases hr
     refine⟨.inr rfl,_,(ry T),?_⟩
     exact wk_ T [] rfl .nil
    ·have T:=an h9 T
     refine wa_ T (g:=?_)
     apply TO.pop1 (wn T) (bT un122 un5 rfl)
     repeat exact sd T
     refine wa_ T (g:=?_)
     obtain⟨v10,h12,hr⟩:=bs hr
     apply TO.pop1 (wn T) (lG rfl rfl us9 h12)
     repeat exact sd T
     refine wa_ T (g:=?_)
     apply TO.pop1 (wn T) (bT un5 un3 rfl)
     repeat exact sd T
     refine wa_ T (g:=?_)
     cases hr
     refine⟨.inr rfl,_,(ry T),?_⟩
     exact wk_ T [] rfl .nil
  ·have T:=an h1 T
   refine wa_ T (g:=?_)
   rcases ifs hr with⟨h13,hr⟩|⟨h13,hr⟩
   ·have T:=an h13 T
    refine wa_ T (g:=?_)
    obtain⟨v11,h14,hr⟩:=bs hr
    apply TO.pop1 (wn T) (dF rfl rfl (by decide) (h14))
    repeat exact sd T
    refine wa_ T (g:=?_)
    rcases ifs hr with⟨h15,hr⟩|⟨h15,hr⟩
    ·have T:=an h15 T
     refine wa_ T (g:=?_)
     obtain⟨v12,h16,hr⟩:=bs hr
     apply TO.pop1 (wn T) (dF rfl rfl (by decide) (h16))
     repeat exact sd T
     refine wa_ T (g:=?_)
     apply TO.pop1 (wn T) (bT un122 un5 rfl)
     repeat exact sd T
     refine wa_ T (g:=?_)
     obtain⟨v13,h17,hr⟩:=bs hr
     apply TO.pop1 (wn T) (lG rfl rfl us9 h17)
     repeat exact sd T
     refine wa_ T (g:=?_)
     apply TO.pop1 (wn T) (bT un5 un3 rfl)
     repeat exact sd T
     refine wa_ T (g:=?_)
     cases hr
     refine⟨.inr rfl,_,(ry T),?_⟩
     exact wk_ T [] rfl .nil
    ·have T:=an h15 T
     refine wa_ T (g:=?_)
     apply TO.pop1 (wn T) (bT un122 un5 rfl)
     repeat exact sd T
     refine wa_ T (g:=?_)
     obtain⟨v14,h18,hr⟩:=bs hr
     apply TO.pop1 (wn T) (lG rfl rfl us9 h18)
     repeat exact sd T
     refine wa_ T (g:=?_)
     apply TO.pop1 (wn T) (bT un5 un3 rfl)
     repeat exact sd T
     refine wa_ T (g:=?_)
     cases hr
     refine⟨.inr rfl,_,(ry T),?_⟩
     exact wk_ T [] rfl .nil
   ·have T:=an h13 T
    refine wa_ T (g:=?_)
    rcases ifs hr with⟨h19,hr⟩|⟨h19,hr⟩
    ·have T:=an h19 T
     refine wa_ T (g:=?_)
     obtain⟨v15,h20,hr⟩:=bs hr
     apply TO.pop1 (wn T) (dF rfl rfl (by decide) (h20))
     repeat exact sd T
     refine wa_ T (g:=?_)
     apply TO.pop1 (wn T) (bT un122 un5 rfl)
     repeat exact sd T
     refine wa_ T (g:=?_)
     obtain⟨v16,h21,hr⟩:=bs hr
     apply TO.pop1 (wn T) (lG rfl rfl us9 h21)
     repeat exact sd T
     refine wa_ T (g:=?_)
     apply TO.pop1 (wn T) (bT un5 un3 rfl)
     repeat exact sd T
     refine wa_ T (g:=?_)
     cases hr
     refine⟨.inr rfl,_,(ry T),?_⟩
     exact wk_ T [] rfl .nil
    ·have T:=an h19 T
     refine wa_ T (g:=?_)
     apply TO.pop1 (wn T) (bT un122 un5 rfl)
     repeat exact sd T
     refine wa_ T (g:=?_)
     obtain⟨v17,h22,hr⟩:=bs hr
     apply TO.pop1 (wn T) (lG rfl rfl us9 h22)
     repeat exact sd T
     refine wa_ T (g:=?_)
     apply TO.pop1 (wn T) (bT un5 un3 rfl)
     repeat exact sd T
     refine wa_ T (g:=?_)
     cases hr
     refine⟨.inr rfl,_,(ry T),?_⟩
     exact wk_ T [] rfl .nil
 rfl
end Go.Rex
namespace Go.Rex
open Go.Proofs
open Go Go.Rex Go.RowKit
set_option maxRecDepth 100000
set_option maxHeartbeats 200000
theorem nG{v1:Int}{v2:Int}(hr:dU v1=some (v2)):Spec (lim Tryz.prog) 168 [.v (.int .u64 v1)] ⟨[.v (.int .i64 v2)],[]⟩:=by
 unfold dU at hr
 have T:=trivial
 apply Spec.fn Tryz.func168 rfl
 focus (simp[Tryz.f168]<;>exact rfl)
 focus
  refine wa_ T (g:=?_)
  obtain⟨v3,h1,hr⟩:=bs hr
  apply TO.cal (wn T) rfl Wy (sJ h1) rfl rfl rfl
  repeat exact sd T
  refine wa_ T (g:=?_)
  cases hr
  refine⟨.inr rfl,_,(ry T),?_⟩
  exact wr [] rfl .nil
 rfl
end Go.Rex
