/- Proofs that the program's functions do what these plain functions say. -/
import Derived.Test.YtbodidihhbejmaaGreatGB
import Derived.Test.YtbodidihhbejmaaGreatS
import Derived.Test.YtbodidihhbejmaaGreatG1
set_option linter.unusedSimpArgs false
set_option linter.unusedVariables false
set_option linter.defProp false
namespace Go.Rex
open Go.Proofs
open Go Go.Rex Go.RowKit
set_option maxRecDepth 100000
set_option maxHeartbeats 200000
def y48:=an @ag101 <| an @cs101 <| @ok101
theorem sP{v1:Int}{v2:Int}{v3:Int}{v4:Int}{v5:Int}{v6:Int}(hr:iJ v1 v2 v3 v4 v5=some (v6)):Spec (lim Tryz.prog) 96 [.agg [.v (.int .i64 v1),.v (.int .i64 v2),.v (.int .i64 v3)],.v (.int .i64 v4),.v (.int .i64 v5)] ⟨[.v (.int .i64 v6)],[]⟩:=by
 unfold iJ at hr
 have T:=y48
 apply Spec.fn Tryz.func96 rfl
 focus (simp[Tryz.f96]<;>exact rfl)
 focus
  refine wb_ T (g:=?_)
  obtain⟨v17,h11,hr⟩:=bs hr
  refine TX.loopE (step:=dC v1 v2 v3) (x:=(v4,v5,1)) h11 (fun (v7,v8,v9)=>⟨.Z::.v (.int .i64 v7)::.v (.int .i64 v8)::.fptr true [.v (.int .i64 v1),.v (.int .i64 v2),.v (.int .i64 v3)] 0::.Z::.Z::.Z::.v (.int .i64 v9)::.Z::.Z::.Z::.Z::.Z::.Z::.Z::.Z::.Z::.Z::.Z::.Z::.Z::.Z::.Z::.Z::[],[]⟩) (fun v13=>(.exit 0,⟨.Z::.Z::.Z::.Z::.Z::.Z::.Z::.v (.int .i64 v13)::.Z::.Z::.Z::.Z::.Z::.Z::.Z::.Z::.Z::.Z::.Z::.Z::.Z::.Z::.Z::.Z::[],[]⟩)) ?_ ?_ ?_ ?_
  ·rintro⟨v7,v8,v9⟩ v0 hr
   dsimp only[dC] at hr
   try dsimp only
   refine wa_ T (g:=?_)
   rcases ifs hr with⟨h6,hr⟩|⟨h6,hr⟩
   ·have T:=an h6 T
    refine wa_ T (g:=?_)
    rcases ifs hr with⟨h7,hr⟩|⟨h7,hr⟩
    ·have T:=an h7 T
     refine wA T (g:=?_)
     obtain⟨v14,h8,hr⟩:=bs hr
     apply TO.cal (wn T) rfl qP (bF h8) rfl rfl rfl
     repeat exact sd T
     refine wA T (g:=?_)
     obtain⟨v15,h9,hr⟩:=bs hr
     apply TO.cal (wn T) rfl qP (bF h9) rfl rfl rfl
     repeat exact sd T
     refine wa_ T (g:=?_)
     cases hr
     refine⟨rfl,?_⟩
     exact wk_ T [] rfl .nil
    ·have T:=an h7 T
     refine wA T (g:=?_)
     obtain⟨v16,h10,hr⟩:=bs hr
     apply TO.cal (wn T) rfl qP (bF h10) rfl rfl rfl
     repeat exact sd T
     refine wa_ T (g:=?_)
     cases hr
     refine⟨rfl,?_⟩
     exact wk_ T [] rfl .nil
   ·have T:=an h6 T
    refine wa_ T (g:=?_)
    cases hr
    refine⟨rfl,?_⟩
    exact wk_ T [] rfl .nil
  ·intro e h;cases h
  ·try dsimp only
   refine wa_ T (g:=?_)
   cases hr
   refine⟨.inr rfl,_,(ry T),?_⟩
   exact wr [] rfl .nil
  ·try dsimp only
   exact wr [] rfl .nil
 rfl
def y49:=an @ag101 <| an @ag3 <| an @cs101 <| an @qS <| an @qE <| @ok101
theorem iS{v1:Int}{v2:Int}{v3:Int}{v4:Int}{v5:Int}(hr:dL v1 v2 v3 v4=some (v5)):Spec (lim Tryz.prog) 122 [.agg [.v (.int .i64 v1),.v (.int .i64 v2),.v (.int .i64 v3)],.v (.int .i64 v4)] ⟨[.v (.int .i64 v5)],[]⟩:=by
 unfold dL at hr
 have T:=y49
 apply Spec.fn Tryz.func122 rfl
 focus (simp[Tryz.f122]<;>exact rfl)
 focus
  refine wB T (g:=?_)
  obtain⟨v6,h1,hr⟩:=bs hr
  apply TO.cal (wn T) rfl aBu (sP h1) rfl rfl rfl
  repeat exact sd T
  refine wa_ T (g:=?_)
  cases hr
  refine⟨.inr rfl,_,(ry T),?_⟩
  exact wr [] rfl .nil
 rfl
def y50:=an @ag101 <| an @ag3 <| an @by3 <| an @cs101 <| an @cs3 <| an @ni24 <| an @ok101 <| an @ok3 <| an @so24 <| an @zc3 <| @bD
theorem qK{v1:Int}{v2:Int}{v3:Int}{v4:(List Int)}{v5:(List Int)}{v6:(List Int)}(hr:fE v1 v2 v3 v4 v5=some (v6)):Spec (lim Tryz.prog) 104 [.agg [.v (.int .i64 v1),.v (.int .i64 v2),.v (.int .i64 v3)],.list 1 (v4.map e_i),.list 1 (v5.map e_i)] ⟨[.lsl 0 0 v6.length],[.rows 1 (v6.map e_i)]⟩:=by
 unfold fE at hr
 have T:=an y50 <| @e_i.eq_1
 apply Spec.fn Tryz.func104 rfl
 focus (simp[Tryz.f104]<;>exact rfl)
 focus
  refine wd_ T (g:=?_)
  apply TX.vt (α:=Int) e_i 7 1 rfl
  repeat exact sd T
  with_reducible apply TX.here
  refine wa_ T (g:=?_)
  obtain⟨v20,h13,hr⟩:=bs hr
  refine TX.loopE (step:=bT v1 v2 v3 v4 v5) (x:=(([]:List Int),0)) h13 (fun (v7,v8)=>⟨.Z::.Z::.list 1 (v5.map e_i)::.fptr true [.v (.int .i64 v1),.v (.int .i64 v2),.v (.int .i64 v3)] 0::.Z::.Z::.Z::.lsl 0 0 v7.length::.Z::.Z::.list 1 (v4.map e_i)::.v (.int .i64 (v4.length:Int))::.v (.int .i64 v8)::.Z::.Z::.Z::.Z::.Z::.Z::.Z::.Z::.Z::.Z::.Z::.Z::.Z::.Z::.Z::.Z::.Z::.Z::[],[.rows 1 (v7.map e_i)]⟩) (fun v14=>(.exit 0,⟨.Z::.Z::.Z::.Z::.Z::.Z::.Z::.lsl 0 0 v14.length::.Z::.Z::.Z::.Z::.Z::.Z::.Z::.Z::.Z::.Z::.Z::.Z::.Z::.Z::.Z::.Z::.Z::.Z::.Z::.Z::.Z::.Z::.Z::[],[.rows 1 (v14.map e_i)]⟩)) ?_ ?_ ?_ ?_
  ·rintro⟨v7,v8⟩ v0 hr
   dsimp only[bT] at hr
   try dsimp only
   refine wa_ T (g:=?_)
   rcases ifs hr with⟨h7,hr⟩|⟨h7,hr⟩
   ·have T:=an h7 T
    refine wa_ T (g:=?_)
    obtain⟨v15,h8,hr⟩:=bs hr
    have h8m:=bJ (f:=e_i) h8
    have h8l:=bQ h8
    try simp only[List.length_set] at h8l
    have h8a:=bW h8
    have T:=an h8m T
    have T:=an h8l T
    have T:=an h8a T
    refine wA T (g:=?_)
    obtain⟨v16,h9,hr⟩:=bs hr
    have h9m:=bJ (f:=e_i) h9
    have h9l:=bQ h9
    try simp only[List.length_set] at h9l
    have h9a:=bW h9
    have T:=an h9m T
    have T:=an h9l T
    have T:=an h9a T
    refine wA T (g:=?_)
    obtain⟨v17,h10,hr⟩:=bs hr
    apply TD.cal (wn T) rfl Nr (iS h10) rfl rfl rfl
    repeat exact sd T
    refine wa_ T (g:=?_)
    obtain⟨v18,h11,hr⟩:=bs hr
    apply TD.cal (wn T) rfl qP (bF h11) rfl rfl rfl
    repeat exact sd T
    refine wa_ T (g:=?_)
    apply TD.bm e_i ([v18]:List Int) (wn T) rfl (by simp only[zz,y50,e_i,Nat.reduceAdd,Nat.reduceMul,Nat.reduceLeDiff,Nat.reduceEqDiff,tslice,tparts,h7,h8m,h8l,h8a,h9m,h9l,h9a];exact rfl) rfl
    repeat exact sd T
    refine wa_ T (g:=?_)
    obtain⟨v19,h12,hr⟩:=bs hr
    apply TD.ap (f:=e_i) (xs:=v7) (ys:=([v18]:List Int)) (wn T) rfl rfl (by first|rfl|simp only[List.length_set]) rfl rfl so24 ni24 zc3 rfl (by rw[by3];exact h12) (fun _=>⟨rfl,rfl,rfl⟩) rfl
    repeat exact sd T
    refine wa_ T (g:=?_)
    cases hr
    refine⟨rfl,?_⟩
    exact wk_ T [some 0] rfl (.rows .nil rfl rfl)
   ·have T:=an h7 T
    refine wa_ T (g:=?_)
    cases hr
    refine⟨rfl,?_⟩
    exact wk_ T [some 0] rfl (.rows .nil rfl rfl)
  ·intro e h;cases h
  ·try dsimp only
   refine wa_ T (g:=?_)
   cases hr
   refine⟨.inr rfl,_,(ry T),?_⟩
   exact wr [some 0] rfl (.rows .nil rfl rfl)
  ·try dsimp only
   exact wr [some 0] rfl (.rows .nil rfl rfl)
 rfl
def y51:=an @ag101 <| an @ag3 <| an @cs101 <| an @cs3 <| an @qS <| an @zB <| an @rG <| an @ok101 <| an @ok3 <| an @so24 <| an @zc101 <| @bD
theorem uK{v1:Int}{v2:Int}{v3:Int}{v4:(List Int)}{v5:(List Int)}(hr:gC v1 v2 v3 v4=some (v5)):Spec (lim Tryz.prog) 103 [.agg [.v (.int .i64 v1),.v (.int .i64 v2),.v (.int .i64 v3)],.list 1 (v4.map e_i)] ⟨[.lsl 0 0 v5.length],[.rows 1 (v5.map e_i)]⟩:=by
 unfold gC at hr
 have T:=an y51 <| @e_i.eq_1
 apply Spec.fn Tryz.func103 rfl
 focus (simp[Tryz.f103]<;>exact rfl)
 focus
  refine wB T (g:=?_)
  obtain⟨v6,h1,hr⟩:=bs hr
  apply TO.cal (wn T) rfl Nr (iS h1) rfl rfl rfl
  repeat exact sd T
  refine wA T (g:=?_)
  obtain⟨v7,h2,hr⟩:=bs hr
  apply TO.cal (wn T) rfl Nr (iS h2) rfl rfl rfl
  repeat exact sd T
  refine wA T (g:=?_)
  obtain⟨v8,h3,hr⟩:=bs hr
  apply TO.cal (wn T) rfl Tc (gH h3) rfl rfl rfl
  repeat exact sd T
  refine wc_ T (g:=?_)
  obtain⟨v16,h10,hr⟩:=bs hr
  refine TX.loopE (step:=eQ v1 v2 v3 v7 v8) (x:=(v8,0)) h10 (fun (v9,v10)=>⟨.Z::.Z::.fptr true [.v (.int .i64 v1),.v (.int .i64 v2),.v (.int .i64 v3)] 0::.Z::.Z::.Z::.v (.int .i64 v7)::.lsl 0 0 v9.length::.Z::.Z::.Z::.Z::.Z::.Z::.Z::.Z::.Z::.Z::.Z::.Z::.Z::.Z::.Z::.Z::.Z::.Z::.lsl 0 0 v9.length::.v (.int .i64 (v8.length:Int))::.v (.int .i64 v10)::.Z::.Z::.Z::.Z::.Z::.Z::.Z::.Z::.Z::.Z::.Z::.Z::.Z::[],[.rows 1 (v9.map e_i)]⟩) (fun v13=>(.exit 0,⟨.Z::.Z::.Z::.Z::.Z::.Z::.Z::.lsl 0 0 v13.length::.Z::.Z::.Z::.Z::.Z::.Z::.Z::.Z::.Z::.Z::.Z::.Z::.Z::.Z::.Z::.Z::.Z::.Z::.Z::.Z::.Z::.Z::.Z::.Z::.Z::.Z::.Z::.Z::.Z::.Z::.Z::.Z::.Z::.Z::[],[.rows 1 (v13.map e_i)]⟩)) ?_ ?_ ?_ ?_
  ·rintro⟨v9,v10⟩ v0 hr
   dsimp only[eQ] at hr
   try dsimp only
   refine wa_ T (g:=?_)
   rcases ifs hr with⟨h7,hr⟩|⟨h7,hr⟩
   ·have T:=an h7 T
    refine wa_ T (g:=?_)
    obtain⟨v14,h8,hr⟩:=bs hr
    have h8m:=bJ (f:=e_i) h8
    have h8l:=bQ h8
    try simp only[List.length_set] at h8l
    have h8a:=bW h8
    have T:=an h8m T
    have T:=an h8l T
    have T:=an h8a T
    refine wA T (g:=?_)
    obtain⟨v15,h9,hr⟩:=bs hr
    apply TO.cal (wn T) rfl qP (bF h9) rfl rfl rfl
    repeat exact sd T
    refine wa_ T (g:=?_)
    apply TO.sr e_i v9 v14 v15 h8a (wn T) rfl rfl rfl rfl rfl ok3 (by rw[cs3];rfl) rfl rfl rfl rfl
    repeat exact sd T
    refine wa_ T (g:=?_)
    cases hr
    refine⟨rfl,?_⟩
    exact wk_ T [some 0] rfl (.rows .nil rfl rfl)
   ·have T:=an h7 T
    refine wa_ T (g:=?_)
    cases hr
    refine⟨rfl,?_⟩
    exact wk_ T [some 0] rfl (.rows .nil rfl rfl)
  ·intro e h;cases h
  ·try dsimp only
   refine wa_ T (g:=?_)
   cases hr
   refine⟨.inr rfl,_,(ry T),?_⟩
   exact wr [some 0] rfl (.rows .nil rfl rfl)
  ·try dsimp only
   exact wr [some 1] rfl (.rows .nil rfl rfl)
 rfl
def y52:=an @ag3 <| an @qS <| @qE
theorem rZ{v1:Int}{v2:Int}{v3:Int}{v4:Int}{v5:Int}(hr:gL v1 v2 v3 v4=some (v5)):Spec (lim Tryz.prog) 105 [.agg [.v (.int .i64 v1),.v (.int .i64 v2),.v (.int .i64 v3)],.v (.int .i64 v4)] ⟨[.v (.int .i64 v5)],[]⟩:=by
 unfold gL at hr
 have T:=y52
 apply Spec.fn Tryz.func105 rfl
 focus (simp[Tryz.f105]<;>exact rfl)
 focus
  refine wB T (g:=?_)
  rcases ifs hr with⟨h1,hr⟩|⟨h1,hr⟩
  ·have T:=an h1 T
   refine wA T (g:=?_)
   cases hr
   refine⟨.inr rfl,_,(ry T),?_⟩
   exact wk_ T [] rfl .nil
  ·have T:=an h1 T
   refine wa_ T (g:=?_)
   cases hr
   refine⟨.inr rfl,_,(ry T),?_⟩
   exact wk_ T [] rfl .nil
 rfl
def y53:=an @ag101 <| an @ag3 <| an @cs101 <| an @cs3 <| an @ok101 <| an @ok3 <| an @so24 <| @bD
theorem lH{v1:Int}{v2:Int}{v3:Int}{v4:(List Int)}{v5:(List Int)}{v6:(List Int)}(hr:bY v1 v2 v3 v4 v5=some (v6)):Spec (lim Tryz.prog) 69 [.agg [.v (.int .i64 v1),.v (.int .i64 v2),.v (.int .i64 v3)],.list 1 (v4.map e_i),.list 1 (v5.map e_i)] ⟨[.lsl 0 0 v6.length],[.rows 1 (v6.map e_i)]⟩:=by
 unfold bY at hr
 have T:=an y53 <| @e_i.eq_1
 apply Spec.fn Tryz.func69 rfl
 focus (simp[Tryz.f69]<;>exact rfl)
 focus
  refine wB T (g:=?_)
  obtain⟨v7,h1,hr⟩:=bs hr
  apply TD.cal (wn T) rfl Tc (gH h1) rfl rfl rfl
  repeat exact sd T
  refine wa_ T (g:=?_)
  obtain⟨v8,h2,hr⟩:=bs hr
  apply TD.lok (wn T) rfl aAR (qK h2) (vw T) rfl rfl (by simp[pG,cl,e_ff,e_c,e_i,e_ii])
  repeat exact sd T
  refine wa_ T (g:=?_)
  obtain⟨v9,h3,hr⟩:=bs hr
  apply TD.lok (wn T) rfl aAW (uK h3) (vw T) rfl rfl (by simp[pG,cl,e_ff,e_c,e_i,e_ii])
  repeat exact sd T
  refine wc_ T (g:=?_)
  obtain⟨v17,h10,hr⟩:=bs hr
  refine TX.loopE (step:=cZ v1 v2 v3 v9) (x:=(v9,0)) h10 (fun (v10,v11)=>⟨.Z::.Z::.Z::.fptr true [.v (.int .i64 v1),.v (.int .i64 v2),.v (.int .i64 v3)] 0::.Z::.Z::.Z::.lsl 0 0 v10.length::.Z::.Z::.Z::.Z::.Z::.Z::.Z::.Z::.Z::.Z::.lsl 0 0 v10.length::.v (.int .i64 (v9.length:Int))::.v (.int .i64 v11)::.Z::.Z::.Z::.Z::.Z::.Z::.Z::.Z::.Z::.Z::.Z::.Z::[],[.rows 1 (v10.map e_i)]⟩) (fun v14=>(.exit 0,⟨.Z::.Z::.Z::.Z::.Z::.Z::.Z::.lsl 0 0 v14.length::.Z::.Z::.Z::.Z::.Z::.Z::.Z::.Z::.Z::.Z::.Z::.Z::.Z::.Z::.Z::.Z::.Z::.Z::.Z::.Z::.Z::.Z::.Z::.Z::.Z::[],[.rows 1 (v14.map e_i)]⟩)) ?_ ?_ ?_ ?_
  ·rintro⟨v10,v11⟩ v0 hr
   dsimp only[cZ] at hr
   try dsimp only
   refine wa_ T (g:=?_)
   rcases ifs hr with⟨h7,hr⟩|⟨h7,hr⟩
   ·have T:=an h7 T
    refine wa_ T (g:=?_)
    obtain⟨v15,h8,hr⟩:=bs hr
    have h8m:=bJ (f:=e_i) h8
    have h8l:=bQ h8
    try simp only[List.length_set] at h8l
    have h8a:=bW h8
    have T:=an h8m T
    have T:=an h8l T
    have T:=an h8a T
    refine wA T (g:=?_)
    obtain⟨v16,h9,hr⟩:=bs hr
    apply TO.cal (wn T) rfl aAA (rZ h9) rfl rfl rfl
    repeat exact sd T
    refine wa_ T (g:=?_)
    apply TO.sr e_i v10 v15 v16 h8a (wn T) rfl rfl rfl rfl rfl ok3 (by rw[cs3];rfl) rfl rfl rfl rfl
    repeat exact sd T
    refine wa_ T (g:=?_)
    cases hr
    refine⟨rfl,?_⟩
    exact wk_ T [some 0] rfl (.rows .nil rfl rfl)
   ·have T:=an h7 T
    refine wa_ T (g:=?_)
    cases hr
    refine⟨rfl,?_⟩
    exact wk_ T [some 0] rfl (.rows .nil rfl rfl)
  ·intro e h;cases h
  ·try dsimp only
   refine wa_ T (g:=?_)
   cases hr
   refine⟨.inr rfl,_,(ry T),?_⟩
   exact wr [some 0] rfl (.rows .nil rfl rfl)
  ·try dsimp only
   exact wr [some 2] rfl (.rows .nil rfl rfl)
 rfl
theorem vS{v1:Int}{v2:(List (Int×Int))}{v3:Int}{v4:(List (Int×Int))}(hr:lU v1 v2=some (v3,v4)):Spec (lim Tryz.prog) 80 [.v (.int .i64 v1),.func 90 [] [.fptr true [.list 2 (v2.map e_ii)] 0]] ⟨[.func 112 [] [.fptr true [.v (.int .i64 v3)] 0,.fptr true [.func 90 [] [.fptr true [.list 2 (v4.map e_ii)] 0]] 0]],[]⟩:=by
 unfold lU at hr
 have T:=@e_ii.eq_1
 apply Spec.fn Tryz.func80 rfl
 focus (simp[Tryz.f80]<;>exact rfl)
 focus
  refine wb_ T (g:=?_)
  cases hr
  refine⟨.inr rfl,_,(ry T),?_⟩
  exact wr [] rfl .nil
 rfl
theorem nD{v1:Int}{v2:Int}{v3:Bool}(hr:fN v1 v2=some (v3)):Spec (lim Tryz.prog) 117 [.v (.int .i64 v1),.v (.int .i64 v2)] ⟨[.v (.bool v3)],[]⟩:=by
 unfold fN at hr
 have T:=trivial
 apply Spec.fn Tryz.func117 rfl
 focus (simp[Tryz.f117]<;>exact rfl)
 focus
  refine wa_ T (g:=?_)
  apply TO.pop1 (wn T) (Ty rfl)
  repeat exact sd T
  refine wa_ T (g:=?_)
  rcases ifs hr with⟨h1,hr⟩|⟨h1,hr⟩
  ·have T:=an h1 T
   refine wa_ T (g:=?_)
   cases hr
   refine⟨.inr rfl,_,(ry T),?_⟩
   exact wk_ T [] rfl .nil
  ·have T:=an h1 T
   refine wa_ T (g:=?_)
   cases hr
   refine⟨.inr rfl,_,(ry T),?_⟩
   exact wk_ T [] rfl .nil
 rfl
def y54:=an @ag3 <| an @Ld <| @Mi
theorem rT{v1:Int}{v2:Int}{v3:Int}{v4:Bool}{v5:Int}(hr:eX v1 v2 v3=some (v4,v5)):Spec (lim Tryz.prog) 91 [.agg [.v (.int .i64 v1),.v (.int .i64 v2)],.v (.int .i64 v3)] ⟨[.func 85 [] [.fptr true [.v (.bool v4)] 0,.fptr true [.v (.int .i64 v5)] 0]],[]⟩:=by
 unfold eX at hr
 have T:=y54
 apply Spec.fn Tryz.func91 rfl
 focus (simp[Tryz.f91]<;>exact rfl)
 focus
  refine wB T (g:=?_)
  obtain⟨v6,h1,hr⟩:=bs hr
  apply TO.cal (wn T) rfl Ua (nD h1) rfl rfl rfl
  repeat exact sd T
  refine wa_ T (g:=?_)
  apply TO.pop1 (wn T) (cG rfl)
  repeat exact sd T
  refine wa_ T (g:=?_)
  rcases ifs hr with⟨h2,hr⟩|⟨h2,hr⟩
  ·have T:=an h2 T
   refine wA T (g:=?_)
   obtain⟨v7,h3,hr⟩:=bs hr
   apply TO.cal (wn T) rfl Ua (nD h3) rfl rfl rfl
   repeat exact sd T
   refine wa_ T (g:=?_)
   apply TO.pop1 (wn T) (cG rfl)
   repeat exact sd T
   refine wa_ T (g:=?_)
   obtain⟨⟨v8,v9⟩,h4,hr⟩:=bs hr
   try dsimp only at hr
   apply TO.cal (wn T) rfl gZ (aE h4) rfl rfl rfl
   repeat exact sd T
   refine wa_ T (g:=?_)
   cases hr
   refine⟨.inr rfl,_,(ry T),?_⟩
   exact wk_ T [] rfl .nil
  ·have T:=an h2 T
   refine wa_ T (g:=?_)
   obtain⟨⟨v10,v11⟩,h5,hr⟩:=bs hr
   try dsimp only at hr
   apply TO.cal (wn T) rfl gZ (aE h5) rfl rfl rfl
   repeat exact sd T
   refine wa_ T (g:=?_)
   cases hr
   refine⟨.inr rfl,_,(ry T),?_⟩
   exact wk_ T [] rfl .nil
 rfl
def y55:=an @ag108 <| an @ag77 <| an @cs108 <| an @ok108 <| @so77
theorem pC{v1:Int}{v2:(List (Int×Int))}{v3:Int}(hr:fZ v1 v2=some (v3)):Spec (lim Tryz.prog) 90 [.v (.int .i64 v1),.fptr true [.list 2 (v2.map e_ii)] 0] ⟨[.v (.int .i64 v3)],[]⟩:=by
 unfold fZ at hr
 have T:=an y55 <| @e_ii.eq_1
 apply Spec.fn Tryz.func90 rfl
 focus (simp[Tryz.f90]<;>exact rfl)
 focus
  refine wA T (g:=?_)
  obtain⟨⟨v4,v5⟩,h1,hr⟩:=bs hr
  try dsimp only at hr
  have T:=an (gx e_ii h1) T
  refine wA T (g:=?_)
  obtain⟨⟨v6,v7⟩,h2,hr⟩:=bs hr
  try dsimp only at hr
  apply TO.cal (wn T) rfl aBM (rT h2) rfl rfl rfl
  repeat exact sd T
  refine wa_ T (g:=?_)
  obtain⟨v8,h3,hr⟩:=bs hr
  apply TO.cal (wn T) rfl kF (aC h3) rfl rfl rfl
  repeat exact sd T
  refine wa_ T (g:=?_)
  cases hr
  refine⟨.inr rfl,_,(ry T),?_⟩
  exact wr [] rfl .nil
 rfl
def y56:=an @ag117 <| an @ag3 <| @bD
theorem sF{v1:Int}{v2:(List (Int×Int))}{v3:Int}(hr:jG v1 v2=some (v3)):Spec (lim Tryz.prog) 112 [.fptr true [.v (.int .i64 v1)] 0,.fptr true [.func 90 [] [.fptr true [.list 2 (v2.map e_ii)] 0]] 0] ⟨[.v (.int .i64 v3)],[]⟩:=by
 unfold jG at hr
 have T:=an y56 <| @e_ii.eq_1
 apply Spec.fn Tryz.func112 rfl
 focus (simp[Tryz.f112]<;>exact rfl)
 focus
  refine wA T (g:=?_)
  obtain⟨v8,h7,hr⟩:=bs hr
  refine TX.loopE (step:=cU v1 v2) (x:=0) h7 (fun v4=>⟨.Z::.fptr true [.func 90 [] [.fptr true [.list 2 (v2.map e_ii)] 0]] 0::.Z::.Z::.Z::.v (.int .i64 v1)::.v (.int .i64 v4)::.Z::.Z::.Z::.Z::.Z::.Z::.Z::.Z::.Z::[],[]⟩) (fun e=>match e with|(.inl v6)=>(.ret,⟨.Z::.Z::.v (.int .i64 v6)::.Z::.Z::.Z::.Z::.Z::.Z::.Z::.Z::.Z::.Z::.Z::.Z::.Z::[],[]⟩)|(.inr _)=>(.exit 0,⟨.Z::.Z::.Z::.Z::.Z::.Z::.Z::.Z::.Z::.Z::.Z::.Z::.Z::.Z::.Z::.Z::[],[]⟩)) ?_ ?_ ?_ ?_
  ·rintro v4 v0 hr
   dsimp only[cU] at hr
   try dsimp only
   refine wa_ T (g:=?_)
   rcases ifs hr with⟨h4,hr⟩|⟨h4,hr⟩
   ·have T:=an h4 T
    refine wA T (g:=?_)
    obtain⟨v7,h5,hr⟩:=bs hr
    apply TO.cal (wn T) rfl aBs (pC h5) rfl rfl rfl
    repeat exact sd T
    refine wa_ T (g:=?_)
    rcases ifs hr with⟨h6,hr⟩|⟨h6,hr⟩
    ·have T:=an h6 T
     refine wa_ T (g:=?_)
     cases hr
     refine⟨rfl,?_⟩
     exact wk_ T [] rfl .nil
    ·have T:=an h6 T
     refine wa_ T (g:=?_)
     cases hr
     refine⟨rfl,?_⟩
     exact wk_ T [] rfl .nil
   ·have T:=an h4 T
    refine wa_ T (g:=?_)
    cases hr
    refine⟨rfl,?_⟩
    exact wk_ T [] rfl .nil
  ·intro e h;rcases e with _|e<;>cases h
  ·try dsimp only
   rcases v8 with v9|_
   ·try dsimp only at hr
    try dsimp only
    refine wa_ T (g:=?_)
    cases hr
    refine⟨.inr rfl,_,(ry T),?_⟩
    exact wr [] rfl .nil
   ·try dsimp only at hr
    try dsimp only
    refine wa_ T (g:=?_)
    cases hr
    refine⟨.inr rfl,_,(ry T),?_⟩
    exact wr [] rfl .nil
  ·try dsimp only
   exact wr [] rfl .nil
 rfl
def y57:=an @ag108 <| an @ag3 <| an @ag77 <| an @by84 <| an @cs108 <| an @cs84 <| an @Ld <| an @Mi <| an @ni31 <| an @ok108 <| an @so31 <| an @so77 <| an @un3 <| an @un44 <| an @zc108 <| an @zc84 <| @bD
theorem xD{v1:(List (Int×Int))}{v2:(List (Nat×Nat))}{v3:Int}(hr:bR v1=some (v2,v3)):Spec (lim Tryz.prog) 43 [.list 2 (v1.map e_ii)] ⟨[.tuple [.lsl 0 0 v2.length,.v (.int .i64 v3)]],[.rows 1 (v2.map e_c)]⟩:=by
 unfold bR at hr
 have T:=an y57 <| an @e_c.eq_1 <| @e_ii.eq_1
 apply Spec.fn Tryz.func43 rfl
 focus (simp[Tryz.f43]<;>exact rfl)
 focus
  refine wD T (g:=?_)
  obtain⟨⟨v4,v5⟩,h1,hr⟩:=bs hr
  try dsimp only at hr
  apply TO.cal (wn T) rfl Tg (vS h1) rfl rfl rfl
  repeat exact sd T
  refine wa_ T (g:=?_)
  obtain⟨v6,h2,hr⟩:=bs hr
  apply TO.cal (wn T) rfl Mz (sF h2) rfl rfl rfl
  repeat exact sd T
  refine wa_ T (g:=?_)
  rcases ifs hr with⟨h3,hr⟩|⟨h3,hr⟩
  ·have T:=an h3 T
   refine wa_ T (g:=?_)
   cases hr
   refine⟨.inr rfl,_,(ry T),?_⟩
   exact wk_ T [none] rfl (.virt .nil)
  ·have T:=an h3 T
   refine wC T (g:=?_)
   apply TX.vt (α:=(Nat×Nat)) e_c 5 1 rfl
   repeat exact sd T
   with_reducible apply TX.here
   refine wa_ T (g:=?_)
   obtain⟨v16,h10,hr⟩:=bs hr
   refine TX.loopE (step:=eL v1) (x:=(([]:List (Nat×Nat)),0)) h10 (fun (v7,v8)=>⟨.Z::.Z::.Z::.Z::.Z::.lsl 0 0 v7.length::.Z::.Z::.Z::.Z::.Z::.Z::.Z::.Z::.Z::.Z::.list 2 (v1.map e_ii)::.v (.int .i64 (v1.length:Int))::.v (.int .i64 v8)::.Z::.Z::.Z::.Z::.Z::.Z::.Z::.Z::.Z::.Z::.Z::.Z::.Z::.Z::.Z::[],[.rows 1 (v7.map e_c)]⟩) (fun v12=>(.exit 0,⟨.Z::.Z::.Z::.Z::.Z::.lsl 0 0 v12.length::.Z::.Z::.Z::.Z::.Z::.Z::.Z::.Z::.Z::.Z::.Z::.Z::.Z::.Z::.Z::.Z::.Z::.Z::.Z::.Z::.Z::.Z::.Z::.Z::.Z::.Z::.Z::.Z::[],[.rows 1 (v12.map e_c)]⟩)) ?_ ?_ ?_ ?_
   ·rintro⟨v7,v8⟩ v0 hr
    dsimp only[eL] at hr
    try dsimp only
    refine wa_ T (g:=?_)
    rcases ifs hr with⟨h7,hr⟩|⟨h7,hr⟩
    ·have T:=an h7 T
     refine wa_ T (g:=?_)
     obtain⟨⟨v13,v14⟩,h8,hr⟩:=bs hr
     try dsimp only at hr
     have h8m:=bJ (f:=e_ii) h8
     have h8l:=bQ h8
     try simp only[List.length_set] at h8l
     have h8a:=bW h8
     have T:=an h8m T
     have T:=an h8l T
     have T:=an h8a T
     refine wA T (g:=?_)
     apply TO.pop1 (wn T) (lR un3 un44 rfl)
     repeat exact sd T
     refine wA T (g:=?_)
     apply TO.pop1 (wn T) (lR un3 un44 rfl)
     repeat exact sd T
     refine wa_ T (g:=?_)
     apply TO.pop1 (wn T) (vC rfl rfl)
     repeat exact sd T
     refine wa_ T (g:=?_)
     apply TO.bm e_c ([((FloatKind.f32.nearest v13),(FloatKind.f32.nearest v14))]:List (Nat×Nat)) (wn T) rfl (by simp only[zz,y57,e_c,e_ii,Nat.reduceAdd,Nat.reduceMul,Nat.reduceLeDiff,Nat.reduceEqDiff,tslice,tparts,h3,h7,h8m,h8l,h8a];exact rfl) rfl
     repeat exact sd T
     refine wa_ T (g:=?_)
     obtain⟨v15,h9,hr⟩:=bs hr
     apply TO.ap (f:=e_c) (xs:=v7) (ys:=([((FloatKind.f32.nearest v13),(FloatKind.f32.nearest v14))]:List (Nat×Nat))) (wn T) rfl rfl (by first|rfl|simp only[List.length_set]) rfl rfl so31 ni31 zc84 rfl (by rw[by84];exact h9) (fun _=>⟨rfl,rfl,rfl⟩)
     repeat exact sd T
     refine wa_ T (g:=?_)
     cases hr
     refine⟨rfl,?_⟩
     exact wk_ T [some 0] rfl (.rows .nil rfl rfl)
    ·have T:=an h7 T
     refine wa_ T (g:=?_)
     cases hr
     refine⟨rfl,?_⟩
     exact wk_ T [some 0] rfl (.rows .nil rfl rfl)
   ·intro e h;cases h
   ·try dsimp only
    refine wa_ T (g:=?_)
    cases hr
    refine⟨.inr rfl,_,(ry T),?_⟩
    exact wk_ T [some 0] rfl (.rows .nil rfl rfl)
   ·try dsimp only
    exact wk_ T [some 0] rfl (.rows .nil rfl rfl)
 rfl
end Go.Rex
namespace Go.Rex
open Go.Proofs
open Go Go.Rex Go.RowKit
set_option maxRecDepth 100000
set_option maxHeartbeats 1000000
def y58:=an @ag101 <| an @ag26 <| an @ag3 <| an @ag31 <| an @ag50 <| an @ag67 <| an @by108 <| an @cs101 <| an @cs108 <| an @cs26 <| an @cs3 <| an @cs50 <| an @cs67 <| an @cs70 <| an @Md <| an @Zs <| an @ni77 <| an @ok101 <| an @ok26 <| an @ok3 <| an @ok50 <| an @ok67 <| an @so114 <| an @so24 <| an @so77 <| an @st101 <| an @st108 <| an @st67 <| an @zc101 <| an @zc108 <| an @zc67 <| an @zc70 <| @bD
theorem uT{v1:(List (Nat×Nat))}{v2:Int}{v3:(List Int)}{v4:Int}{v5:Int}{v6:Int}{v7:Int}{v8:(List (Nat×Nat))}{v9:Int}(hr:cJ v1 v2 v3 v4 v5 v6 v7=some (v8,v9)):Spec (lim Tryz.prog) 22 [.list 1 (v1.map e_c),.agg [.v (.int .i64 v2),.list 1 (v3.map e_i),.v (.int .i64 v4)],.agg [.v (.int .i64 v5),.v (.int .i64 v6),.v (.int .i64 v7)]] ⟨[.tuple [.lsl 0 0 v8.length,.v (.int .i64 v9)]],[.rows 1 (v8.map e_c)]⟩:=by
 unfold cJ at hr
 have T:=an y58 <| an @e_c.eq_1 <| an @e_i.eq_1 <| @e_ii.eq_1
 apply Spec.fn Tryz.func22 rfl
 focus (simp[Tryz.f22]<;>exact rfl)
 focus
  repeat (first|(with_reducible first|refine mv ?_|refine m12 rfl ?_|refine TO.nil ?_)|((with_reducible first|apply TO.bf|apply TO.asg);(repeat (focus (show _=_;first|exact k1 rfl|exact k2 rfl|(simp only[zz,y58,e_c,e_i,e_ii,Nat.reduceAdd,Nat.reduceMul,Nat.reduceLeDiff,Nat.reduceEqDiff]<;>exact rfl)|exact rfl)));(with_reducible apply TO.here))|((with_reducible apply TX.region);(focus (simp only[zl]<;>exact rfl));(focus rfl);(try dsimp only))|with_reducible refine TD.nil ?_|((with_reducible first|apply TD.fa|apply TD.ld|apply TD.bld|apply TD.al|apply TD.sv);(repeat (focus (show _=_;first|exact k1 rfl|exact k2 rfl|(simp only[zz,y58,e_c,e_i,e_ii,Nat.reduceAdd,Nat.reduceMul,Nat.reduceLeDiff,Nat.reduceEqDiff,aP,tload,aV,aS,List.getElem?_map,tbuild,tfill]<;>exact rfl)|exact rfl)));(with_reducible refine TD.here ?_))|((with_reducible apply TD.ldF);(focus decide +kernel);(repeat (focus (show _=_;first|exact k1 rfl|exact k2 rfl|(simp only[zz,y58,e_c,e_i,e_ii,Nat.reduceAdd,Nat.reduceMul,Nat.reduceLeDiff,Nat.reduceEqDiff,aP,tload,aV,aS,List.getElem?_map,tbuild,tfill]<;>exact rfl)|exact rfl)));(with_reducible refine TD.here ?_))|((with_reducible apply TX.drawn);(focus decide +kernel);(focus (simp only[zl]<;>exact rfl));(focus exact rfl);(try dsimp only))|fail)
  obtain⟨v10,h1,hr⟩:=bs hr
  apply TD.cal (wn T) rfl aBF (As h1) rfl rfl rfl
  repeat exact sd T
  repeat (first|(with_reducible first|refine mv ?_|refine m12 rfl ?_|refine TD.nil ?_)|((with_reducible first|apply TD.ld|apply TD.mf|apply TD.fa);(repeat (focus (show _=_;first|exact k1 rfl|exact k2 rfl|(simp only[zz,y58,e_c,e_i,e_ii,Nat.reduceAdd,Nat.reduceMul,Nat.reduceLeDiff,Nat.reduceEqDiff,tload,aV,aS,List.getElem?_map,aP]<;>exact rfl)|exact rfl)));(with_reducible refine TD.here ?_))|((with_reducible apply TD.ldF);(focus decide +kernel);(repeat (focus (show _=_;first|exact k1 rfl|exact k2 rfl|(simp only[zz,y58,e_c,e_i,e_ii,Nat.reduceAdd,Nat.reduceMul,Nat.reduceLeDiff,Nat.reduceEqDiff,tload,aV,aS,List.getElem?_map,aP]<;>exact rfl)|exact rfl)));(with_reducible refine TD.here ?_))|((with_reducible apply TX.drawn);(focus decide +kernel);(focus (simp only[zl]<;>exact rfl));(focus exact rfl);(try dsimp only))|fail)
  obtain⟨⟨v11,v12,v13⟩,h2,hr⟩:=bs hr
  try dsimp only at hr
  apply TD.cal (wn T) rfl aBL (oJ h2) rfl rfl rfl
  repeat exact sd T
  repeat (first|(with_reducible first|refine mv ?_|refine m12 rfl ?_|refine TD.nil ?_)|((with_reducible first|apply TD.ld|apply TD.mf);(repeat (focus (show _=_;first|exact k1 rfl|exact k2 rfl|(simp only[zz,y58,e_c,e_i,e_ii,Nat.reduceAdd,Nat.reduceMul,Nat.reduceLeDiff,Nat.reduceEqDiff,tload,aV,aS,List.getElem?_map]<;>exact rfl)|exact rfl)));(with_reducible refine TD.here ?_))|((with_reducible apply TD.ldF);(focus decide +kernel);(repeat (focus (show _=_;first|exact k1 rfl|exact k2 rfl|(simp only[zz,y58,e_c,e_i,e_ii,Nat.reduceAdd,Nat.reduceMul,Nat.reduceLeDiff,Nat.reduceEqDiff,tload,aV,aS,List.getElem?_map]<;>exact rfl)|exact rfl)));(with_reducible refine TD.here ?_))|((with_reducible apply TX.drawn);(focus decide +kernel);(focus (simp only[zl]<;>exact rfl));(focus exact rfl);(try dsimp only))|fail)
  apply TD.frz 0 rfl rfl
  repeat exact sd T
  refine we_ T (g:=?_)
  obtain⟨v14,h3,hr⟩:=bs hr
  apply TD.cal (wn T) rfl rD (pY h3) rfl rfl rfl
  repeat exact sd T
  refine wa_ T (g:=?_)
  rcases ifs hr with⟨h4,hr⟩|⟨h4,hr⟩
  ·have T:=an h4 T
   refine wa_ T (g:=?_)
   cases hr
   refine⟨.inr rfl,_,(ry T),?_⟩
   exact wk_ T [none] rfl (.virt .nil)
  ·repeat (first|(with_reducible first|refine mv ?_|refine m12 rfl ?_|refine TD.nil ?_)|((with_reducible first|apply TD.ld|apply TD.fa);(repeat (focus (show _=_;first|exact k1 rfl|exact k2 rfl|(simp only[zz,y58,e_c,e_i,e_ii,Nat.reduceAdd,Nat.reduceMul,Nat.reduceLeDiff,Nat.reduceEqDiff,tload,aV,aS,List.getElem?_map,aP,h4]<;>exact rfl)|exact rfl)));(with_reducible refine TD.here ?_))|((with_reducible apply TD.ldF);(focus decide +kernel);(repeat (focus (show _=_;first|exact k1 rfl|exact k2 rfl|(simp only[zz,y58,e_c,e_i,e_ii,Nat.reduceAdd,Nat.reduceMul,Nat.reduceLeDiff,Nat.reduceEqDiff,tload,aV,aS,List.getElem?_map,aP,h4]<;>exact rfl)|exact rfl)));(with_reducible refine TD.here ?_))|((with_reducible apply TX.drawn);(focus decide +kernel);(focus (simp only[zl]<;>exact rfl));(focus exact rfl);(try dsimp only))|((with_reducible apply TX.cond_true);(focus rfl);(focus (first|rfl|(simp only[z1,zn,h4];done))))|((with_reducible apply TX.cond_false);(focus rfl);(focus (first|rfl|(simp only[z1,zn,h4];done))))|fail)
   obtain⟨v15,h5,hr⟩:=bs hr
   have T:=an h4 T
   apply TD.cal (wn T) rfl aCy (pL h5) rfl rfl rfl
   repeat exact sd T
   refine wa_ T (g:=?_)
   obtain⟨v16,h6,hr⟩:=bs hr
   apply TD.lok (wn T) rfl Tc (gH h6) (vw T) rfl rfl (by simp[pG,cl,e_ff,e_c,e_i,e_ii])
   repeat exact sd T
   refine wA T (g:=?_)
   obtain⟨v17,h7,hr⟩:=bs hr
   apply TO.cal (wn T) rfl aCq (wE h7) rfl rfl rfl
   repeat exact sd T
   refine wa_ T (g:=?_)
   obtain⟨⟨v18,v19⟩,h8,hr⟩:=bs hr
   try dsimp only at hr
   apply TO.lok (wn T) rfl aB1 (Cj h8) (vw T) rfl rfl (by simp[pG,cl,e_ff,e_c,e_i,e_ii])
   repeat exact sd T
   repeat (first|(with_reducible first|refine mv ?_|refine m12 rfl ?_|refine TO.nil ?_)|((with_reducible first|apply TO.mv|apply TO.ext|apply TO.asg);(repeat (focus (show _=_;first|exact k1 rfl|exact k2 rfl|(simp only[zz,y58,e_c,e_i,e_ii,Nat.reduceAdd,Nat.reduceMul,Nat.reduceLeDiff,Nat.reduceEqDiff,h4]<;>exact rfl)|exact rfl)));(with_reducible apply TO.here))|((with_reducible apply TX.region);(focus (simp only[zl]<;>exact rfl));(focus rfl);(try dsimp only))|with_reducible refine TD.nil ?_|((with_reducible first|apply TD.ld|apply TD.mv);(repeat (focus (show _=_;first|exact k1 rfl|exact k2 rfl|(simp only[zz,y58,e_c,e_i,e_ii,Nat.reduceAdd,Nat.reduceMul,Nat.reduceLeDiff,Nat.reduceEqDiff,tload,aV,aS,List.getElem?_map,h4]<;>exact rfl)|exact rfl)));(with_reducible refine TD.here ?_))|((with_reducible apply TD.ldF);(focus decide +kernel);(repeat (focus (show _=_;first|exact k1 rfl|exact k2 rfl|(simp only[zz,y58,e_c,e_i,e_ii,Nat.reduceAdd,Nat.reduceMul,Nat.reduceLeDiff,Nat.reduceEqDiff,tload,aV,aS,List.getElem?_map,h4]<;>exact rfl)|exact rfl)));(with_reducible refine TD.here ?_))|((with_reducible apply TX.drawn);(focus decide +kernel);(focus (simp only[zl]<;>exact rfl));(focus exact rfl);(try dsimp only))|fail)
   obtain⟨v20,h9,hr⟩:=bs hr
   apply TD.lok (wn T) rfl Yi (lH h9) (vw T) rfl rfl (by simp[pG,cl,e_ff,e_c,e_i,e_ii])
   repeat exact sd T
   repeat (first|(with_reducible first|refine mv ?_|refine m12 rfl ?_|refine TD.nil ?_)|((with_reducible first|apply TD.ld|apply TD.mv);(repeat (focus (show _=_;first|exact k1 rfl|exact k2 rfl|(simp only[zz,y58,e_c,e_i,e_ii,Nat.reduceAdd,Nat.reduceMul,Nat.reduceLeDiff,Nat.reduceEqDiff,tload,aV,aS,List.getElem?_map,h4]<;>exact rfl)|exact rfl)));(with_reducible refine TD.here ?_))|((with_reducible apply TD.ldF);(focus decide +kernel);(repeat (focus (show _=_;first|exact k1 rfl|exact k2 rfl|(simp only[zz,y58,e_c,e_i,e_ii,Nat.reduceAdd,Nat.reduceMul,Nat.reduceLeDiff,Nat.reduceEqDiff,tload,aV,aS,List.getElem?_map,h4]<;>exact rfl)|exact rfl)));(with_reducible refine TD.here ?_))|((with_reducible apply TX.drawn);(focus decide +kernel);(focus (simp only[zl]<;>exact rfl));(focus exact rfl);(try dsimp only))|fail)
   obtain⟨v21,h10,hr⟩:=bs hr
   apply TD.lok (wn T) rfl Yi (lH h10) (vw T) rfl rfl (by simp[pG,cl,e_ff,e_c,e_i,e_ii])
   repeat exact sd T
   refine wc_ T (g:=?_)
   apply TX.vt (α:=(Int×Int)) e_ii 16 2 rfl
   repeat exact sd T
   with_reducible apply TX.here
   refine wa_ T (g:=?_)
   obtain⟨v31,h19,hr⟩:=bs hr
   refine TX.loopE (step:=cR v20 v21) (x:=(([]:List (Int×Int)),0)) h19 (fun (v22,v23)=>⟨.Z::.Z::.Z::.Z::.Z::.Z::.Z::.Z::.Z::.Z::.Z::.Z::.Z::.Z::.lsl 0 0 v20.length::.lsl 1 0 v21.length::.lsl 2 0 v22.length::.Z::.Z::.Z::.Z::.Z::.Z::.Z::.Z::.Z::.Z::.Z::.Z::.Z::.Z::.Z::.Z::.Z::.Z::.Z::.Z::.Z::.Z::.Z::.Z::.Z::.Z::.Z::.Z::.Z::.Z::.Z::.Z::.Z::.Z::.Z::.Z::.Z::.Z::.Z::.Z::.Z::.Z::.Z::.Z::.Z::.v (.int .i64 (v20.length:Int))::.v (.int .i64 v23)::.Z::.Z::.Z::.Z::.Z::.Z::.Z::.Z::.Z::.Z::.Z::.Z::.Z::.Z::.Z::.Z::.Z::.Z::.Z::[],[.rows 1 (v20.map e_i),.rows 1 (v21.map e_i),.rows 2 (v22.map e_ii)]⟩) (fun v27=>(.exit 0,⟨.Z::.Z::.Z::.Z::.Z::.Z::.Z::.Z::.Z::.Z::.Z::.Z::.Z::.Z::.Z::.Z::.lsl 0 0 v27.length::.Z::.Z::.Z::.Z::.Z::.Z::.Z::.Z::.Z::.Z::.Z::.Z::.Z::.Z::.Z::.Z::.Z::.Z::.Z::.Z::.Z::.Z::.Z::.Z::.Z::.Z::.Z::.Z::.Z::.Z::.Z::.Z::.Z::.Z::.Z::.Z::.Z::.Z::.Z::.Z::.Z::.Z::.Z::.Z::.Z::.Z::.Z::.Z::.Z::.Z::.Z::.Z::.Z::.Z::.Z::.Z::.Z::.Z::.Z::.Z::.Z::.Z::.Z::.Z::.Z::.Z::[],[.rows 2 (v27.map e_ii)]⟩)) ?_ ?_ ?_ ?_
   ·rintro⟨v22,v23⟩ v0 hr
    dsimp only[cR] at hr
    try dsimp only
    refine wa_ T (g:=?_)
    rcases ifs hr with⟨h15,hr⟩|⟨h15,hr⟩
    ·have T:=an h15 T
     refine wa_ T (g:=?_)
     obtain⟨v28,h16,hr⟩:=bs hr
     have h16m:=bJ (f:=e_i) h16
     have h16l:=bQ h16
     try simp only[List.length_set] at h16l
     have h16a:=bW h16
     repeat (first|(with_reducible first|refine mv ?_|refine m12 rfl ?_|refine TD.nil ?_)|((with_reducible first|apply TD.ia|apply TD.ld|apply TD.mv);(repeat (focus (show _=_;first|exact k1 rfl|exact k2 rfl|(simp only[zz,y58,e_c,e_i,e_ii,Nat.reduceAdd,Nat.reduceMul,Nat.reduceLeDiff,Nat.reduceEqDiff,aB,Nat.zero_add,tload,aV,aS,List.getElem?_map,h4,h15,h16m,h16l,h16a]<;>exact rfl)|exact rfl)));(with_reducible refine TD.here ?_))|((with_reducible apply TD.ldF);(focus decide +kernel);(repeat (focus (show _=_;first|exact k1 rfl|exact k2 rfl|(simp only[zz,y58,e_c,e_i,e_ii,Nat.reduceAdd,Nat.reduceMul,Nat.reduceLeDiff,Nat.reduceEqDiff,aB,Nat.zero_add,tload,aV,aS,List.getElem?_map,h4,h15,h16m,h16l,h16a]<;>exact rfl)|exact rfl)));(with_reducible refine TD.here ?_))|((with_reducible apply TX.drawn);(focus decide +kernel);(focus (simp only[zl]<;>exact rfl));(focus exact rfl);(try dsimp only))|fail)
     obtain⟨v29,h17,hr⟩:=bs hr
     have h17m:=bJ (f:=e_i) h17
     have h17l:=bQ h17
     try simp only[List.length_set] at h17l
     have h17a:=bW h17
     repeat (first|(with_reducible first|refine mv ?_|refine m12 rfl ?_|refine TD.nil ?_)|((with_reducible first|apply TD.ia|apply TD.ld|apply TD.bld);(repeat (focus (show _=_;first|exact k1 rfl|exact k2 rfl|(simp only[zz,y58,e_c,e_i,e_ii,Nat.reduceAdd,Nat.reduceMul,Nat.reduceLeDiff,Nat.reduceEqDiff,aB,Nat.zero_add,tload,aV,aS,List.getElem?_map,tbuild,tfill,h4,h15,h16m,h16l,h16a,h17m,h17l,h17a]<;>exact rfl)|exact rfl)));(with_reducible refine TD.here ?_))|((with_reducible apply TD.ldF);(focus decide +kernel);(repeat (focus (show _=_;first|exact k1 rfl|exact k2 rfl|(simp only[zz,y58,e_c,e_i,e_ii,Nat.reduceAdd,Nat.reduceMul,Nat.reduceLeDiff,Nat.reduceEqDiff,aB,Nat.zero_add,tload,aV,aS,List.getElem?_map,tbuild,tfill,h4,h15,h16m,h16l,h16a,h17m,h17l,h17a]<;>exact rfl)|exact rfl)));(with_reducible refine TD.here ?_))|((with_reducible apply TX.drawn);(focus decide +kernel);(focus (simp only[zl]<;>exact rfl));(focus exact rfl);(try dsimp only))|fail)
     have T:=an h16m T
     have T:=an h16l T
     have T:=an h16a T
     have T:=an h17m T
     have T:=an h17l T
     have T:=an h17a T
     apply TD.bm e_ii ([(v28,v29)]:List (Int×Int)) (wn T) rfl (by simp only[zz,y58,e_c,e_i,e_ii,Nat.reduceAdd,Nat.reduceMul,Nat.reduceLeDiff,Nat.reduceEqDiff,tslice,tparts,h4,h15,h16m,h16l,h16a,h17m,h17l,h17a];exact rfl) rfl
     repeat exact sd T
     refine wa_ T (g:=?_)
     obtain⟨v30,h18,hr⟩:=bs hr
     apply TD.ap (f:=e_ii) (xs:=v22) (ys:=([(v28,v29)]:List (Int×Int))) (wn T) rfl rfl (by first|rfl|simp only[List.length_set]) rfl rfl so77 ni77 zc108 rfl (by rw[by108];exact h18) (fun _=>⟨rfl,rfl,rfl⟩) rfl
     repeat exact sd T
     refine wa_ T (g:=?_)
     cases hr
     refine⟨rfl,?_⟩
     exact wk_ T [some 0,some 1,some 2] rfl (.rows (.rows (.rows .nil rfl rfl) rfl rfl) rfl rfl)
    ·have T:=an h15 T
     refine wa_ T (g:=?_)
     cases hr
     refine⟨rfl,?_⟩
     exact wk_ T [some 2] rfl (.rows .nil rfl rfl)
   ·intro e h;cases h
   ·try dsimp only
    refine wa_ T (g:=?_)
    obtain⟨⟨v32,v33⟩,h20,hr⟩:=bs hr
    try dsimp only at hr
    apply TO.lok (wn T) rfl aBY (xD h20) (vw T) rfl rfl (by simp[pG,cl,e_ff,e_c,e_i,e_ii])
    repeat exact sd T
    refine wa_ T (g:=?_)
    cases hr
    refine⟨.inr rfl,_,(ry T),?_⟩
    exact wk_ T [some 1] rfl (.rows .nil rfl rfl)
   ·try dsimp only
    exact wk_ T [some 7,some 8,some 9] rfl (.rows (.rows (.rows .nil rfl rfl) rfl rfl) rfl rfl)
 rfl
def y59:=an @un3 <| @un95
theorem qV{v1:Nat}{v2:Bool}(hr:eP v1=some (v2)):Spec (lim Tryz.prog) 53 [.v (.float .f64 v1)] ⟨[.v (.bool v2)],[]⟩:=by
 unfold eP at hr
 have T:=y59
 apply Spec.fn Tryz.func53 rfl
 focus (simp[Tryz.f53]<;>exact rfl)
 focus
  refine wa_ T (g:=?_)
  apply TO.pop1 (wn T) (gG rfl rfl (by decide))
  repeat exact sd T
  refine wa_ T (g:=?_)
  rcases ifs hr with⟨h1,hr⟩|⟨h1,hr⟩
  ·have T:=an h1 T
   refine wa_ T (g:=?_)
   cases hr
   refine⟨.inr rfl,_,(ry T),?_⟩
   exact wk_ T [] rfl .nil
  ·have T:=an h1 T
   refine wa_ T (g:=?_)
   obtain⟨v3,h2,hr⟩:=bs hr
   apply TO.pop1 (wn T) (Sz rfl rfl (by decide) (h2))
   repeat exact sd T
   refine wa_ T (g:=?_)
   apply TO.pop1 (wn T) (gG rfl rfl (by decide))
   repeat exact sd T
   refine wa_ T (g:=?_)
   rcases ifs hr with⟨h3,hr⟩|⟨h3,hr⟩
   ·have T:=an h3 T
    refine wa_ T (g:=?_)
    cases hr
    refine⟨.inr rfl,_,(ry T),?_⟩
    exact wk_ T [] rfl .nil
   ·have T:=an h3 T
    refine wa_ T (g:=?_)
    apply TO.pop1 (wn T) (gG rfl rfl (by decide))
    repeat exact sd T
    refine wa_ T (g:=?_)
    rcases ifs hr with⟨h4,hr⟩|⟨h4,hr⟩
    ·have T:=an h4 T
     refine wa_ T (g:=?_)
     apply TO.pop1 (wn T) (gG rfl rfl (by decide))
     repeat exact sd T
     refine wa_ T (g:=?_)
     apply TO.pop1 (wn T) (cG rfl)
     repeat exact sd T
     refine wa_ T (g:=?_)
     rcases ifs hr with⟨h5,hr⟩|⟨h5,hr⟩
     ·have T:=an h5 T
      refine wa_ T (g:=?_)
      obtain⟨v4,h6,hr⟩:=bs hr
      apply TO.pop1 (wn T) (lS un95 un3 rfl h6)
      repeat exact sd T
      refine wa_ T (g:=?_)
      apply TO.pop1 (wn T) (lR un3 un95 rfl)
      repeat exact sd T
      refine wa_ T (g:=?_)
      apply TO.pop1 (wn T) (gG rfl rfl (by decide))
      repeat exact sd T
      refine wa_ T (g:=?_)
      cases hr
      refine⟨.inr rfl,_,(ry T),?_⟩
      exact wk_ T [] rfl .nil
     ·have T:=an h5 T
      refine wa_ T (g:=?_)
      cases hr
      refine⟨.inr rfl,_,(ry T),?_⟩
      exact wk_ T [] rfl .nil
    ·have T:=an h4 T
     refine wa_ T (g:=?_)
     apply TO.pop1 (wn T) (cG rfl)
     repeat exact sd T
     refine wa_ T (g:=?_)
     cases hr
     refine⟨.inr rfl,_,(ry T),?_⟩
     exact wk_ T [] rfl .nil
 rfl
def y60:=an @ag84 <| an @cs84 <| an @ok84 <| an @so31 <| an @un44 <| an @un95 <| @bD
theorem yL{v1:(List (Nat×Nat))}{v2:Int}(hr:dF v1=some (v2)):Spec (lim Tryz.prog) 13 [.list 1 (v1.map e_c)] ⟨[.v (.int .i64 v2)],[]⟩:=by
 unfold dF at hr
 have T:=an y60 <| @e_c.eq_1
 apply Spec.fn Tryz.func13 rfl
 focus (simp[Tryz.f13]<;>exact rfl)
 focus
  refine wc_ T (g:=?_)
  rcases ifs hr with⟨h1,hr⟩|⟨h1,hr⟩
  ·have T:=an h1 T
   refine wa_ T (g:=?_)
   cases hr
   refine⟨.inr rfl,_,(ry T),?_⟩
   exact wk_ T [] rfl .nil
  ·have T:=an h1 T
   refine wc_ T (g:=?_)
   rcases ifs hr with⟨h2,hr⟩|⟨h2,hr⟩
   ·have T:=an h2 T
    refine wa_ T (g:=?_)
    cases hr
    refine⟨.inr rfl,_,(ry T),?_⟩
    exact wk_ T [] rfl .nil
   ·have T:=an h2 T
    refine wa_ T (g:=?_)
    obtain⟨v17,h27,hr⟩:=bs hr
    refine TX.loopE (step:=eV v1) (x:=0) h27 (fun v3=>⟨.list 1 (v1.map e_c)::.Z::.Z::.v (.int .i64 v3)::.Z::.Z::.Z::.Z::.Z::.Z::.Z::.Z::.Z::.Z::.Z::.Z::.Z::.Z::.Z::.Z::.Z::.Z::.Z::.Z::.Z::.Z::.Z::.Z::.Z::.Z::.Z::.Z::.Z::.Z::.Z::.Z::.Z::.Z::.Z::.Z::.Z::.Z::.Z::.Z::.Z::.Z::.Z::.Z::.Z::.Z::.Z::.Z::[],[]⟩) (fun e=>match e with|(.inl v10)=>(.ret,⟨.Z::.Z::.v (.int .i64 v10)::.Z::.Z::.Z::.Z::.Z::.Z::.Z::.Z::.Z::.Z::.Z::.Z::.Z::.Z::.Z::.Z::.Z::.Z::.Z::.Z::.Z::.Z::.Z::.Z::.Z::.Z::.Z::.Z::.Z::.Z::.Z::.Z::.Z::.Z::.Z::.Z::.Z::.Z::.Z::.Z::.Z::.Z::.Z::.Z::.Z::.Z::.Z::.Z::.Z::[],[]⟩)|(.inr _)=>(.exit 0,⟨.Z::.Z::.Z::.Z::.Z::.Z::.Z::.Z::.Z::.Z::.Z::.Z::.Z::.Z::.Z::.Z::.Z::.Z::.Z::.Z::.Z::.Z::.Z::.Z::.Z::.Z::.Z::.Z::.Z::.Z::.Z::.Z::.Z::.Z::.Z::.Z::.Z::.Z::.Z::.Z::.Z::.Z::.Z::.Z::.Z::.Z::.Z::.Z::.Z::.Z::.Z::.Z::[],[]⟩)) ?_ ?_ ?_ ?_
    ·rintro v3 v0 hr
     dsimp only[eV] at hr
     try dsimp only
     refine wc_ T (g:=?_)
     rcases ifs hr with⟨h15,hr⟩|⟨h15,hr⟩
     ·have T:=an h15 T
      refine wa_ T (g:=?_)
      obtain⟨⟨v11,v12⟩,h16,hr⟩:=bs hr
      try dsimp only at hr
      have T:=an (gx e_c h16) T
      refine wA T (g:=?_)
      apply TD.pop1 (wn T) (rV rfl)
      repeat exact sd T
      refine wa_ T (g:=?_)
      obtain⟨v13,h17,hr⟩:=bs hr
      apply TD.pop1 (wn T) (oR un44 un95 rfl h17)
      repeat exact sd T
      refine wA T (g:=?_)
      apply TD.pop1 (wn T) (rY rfl)
      repeat exact sd T
      refine wa_ T (g:=?_)
      obtain⟨v14,h18,hr⟩:=bs hr
      apply TD.pop1 (wn T) (oR un44 un95 rfl h18)
      repeat exact sd T
      refine wa_ T (g:=?_)
      obtain⟨v15,h19,hr⟩:=bs hr
      apply TO.cal (wn T) rfl Xg (qV h19) rfl rfl rfl
      repeat exact sd T
      refine wa_ T (g:=?_)
      apply TO.pop1 (wn T) (cG rfl)
      repeat exact sd T
      refine wa_ T (g:=?_)
      rcases ifs hr with⟨h20,hr⟩|⟨h20,hr⟩
      ·have T:=an h20 T
       refine wa_ T (g:=?_)
       obtain⟨v16,h21,hr⟩:=bs hr
       apply TO.cal (wn T) rfl Xg (qV h21) rfl rfl rfl
       repeat exact sd T
       refine wa_ T (g:=?_)
       apply TO.pop1 (wn T) (cG rfl)
       repeat exact sd T
       refine wa_ T (g:=?_)
       rcases ifs hr with⟨h22,hr⟩|⟨h22,hr⟩
       ·have T:=an h22 T
        refine wa_ T (g:=?_)
        apply TO.pop1 (wn T) (gG rfl rfl (by decide))
        repeat exact sd T
        refine wa_ T (g:=?_)
        rcases ifs hr with⟨h23,hr⟩|⟨h23,hr⟩
        ·have T:=an h23 T
         refine wa_ T (g:=?_)
         cases hr
         refine⟨rfl,?_⟩
         exact wk_ T [] rfl .nil
        ·have T:=an h23 T
         refine wa_ T (g:=?_)
         apply TO.pop1 (wn T) (gG rfl rfl (by decide))
         repeat exact sd T
         refine wa_ T (g:=?_)
         rcases ifs hr with⟨h24,hr⟩|⟨h24,hr⟩
         ·have T:=an h24 T
          refine wa_ T (g:=?_)
          cases hr
          refine⟨rfl,?_⟩
          exact wk_ T [] rfl .nil
         ·have T:=an h24 T
          refine wa_ T (g:=?_)
          apply TO.pop1 (wn T) (gG rfl rfl (by decide))
          repeat exact sd T
          refine wa_ T (g:=?_)
          rcases ifs hr with⟨h25,hr⟩|⟨h25,hr⟩
          ·have T:=an h25 T
           refine wa_ T (g:=?_)
           cases hr
           refine⟨rfl,?_⟩
           exact wk_ T [] rfl .nil
          ·have T:=an h25 T
           refine wa_ T (g:=?_)
           apply TO.pop1 (wn T) (gG rfl rfl (by decide))
           repeat exact sd T
           refine wa_ T (g:=?_)
           rcases ifs hr with⟨h26,hr⟩|⟨h26,hr⟩
           ·have T:=an h26 T
            refine wa_ T (g:=?_)
            cases hr
            refine⟨rfl,?_⟩
            exact wk_ T [] rfl .nil
           ·have T:=an h26 T
            refine wa_ T (g:=?_)
            cases hr
            refine⟨rfl,?_⟩
            exact wk_ T [] rfl .nil
       ·have T:=an h22 T
        refine wa_ T (g:=?_)
        cases hr
        refine⟨rfl,?_⟩
        exact wk_ T [] rfl .nil
      ·have T:=an h20 T
       refine wa_ T (g:=?_)
       cases hr
       refine⟨rfl,?_⟩
       exact wk_ T [] rfl .nil
     ·have T:=an h15 T
      refine wa_ T (g:=?_)
      cases hr
      refine⟨rfl,?_⟩
      exact wk_ T [] rfl .nil
    ·intro e h;rcases e with _|e<;>cases h
    ·try dsimp only
     rcases v17 with v18|_
     ·try dsimp only at hr
      try dsimp only
      refine wa_ T (g:=?_)
      cases hr
      refine⟨.inr rfl,_,(ry T),?_⟩
      exact wk_ T [] rfl .nil
     ·try dsimp only at hr
      try dsimp only
      refine wa_ T (g:=?_)
      cases hr
      refine⟨.inr rfl,_,(ry T),?_⟩
      exact wk_ T [] rfl .nil
    ·try dsimp only
     exact wk_ T [] rfl .nil
 rfl
end Go.Rex
namespace Go.Rex
open Go.Proofs
open Go Go.Rex Go.RowKit
set_option maxRecDepth 100000
set_option maxHeartbeats 200000
theorem gE{v1:Int}{v2:Int}{v3:Int}{v4:Bool}(hr:bN v1 v2 v3=some (v4)):Spec (lim Tryz.prog) 19 [.v (.int .i64 v1),.v (.int .i64 v2),.v (.int .i64 v3)] ⟨[.v (.bool v4)],[]⟩:=by
 unfold bN at hr
 have T:=trivial
 apply Spec.fn Tryz.func19 rfl
 focus (simp[Tryz.f19]<;>exact rfl)
 focus
  refine wa_ T (g:=?_)
  rcases ifs hr with⟨h1,hr⟩|⟨h1,hr⟩
  ·have T:=an h1 T
   refine wa_ T (g:=?_)
   cases hr
   refine⟨.inr rfl,_,(ry T),?_⟩
   exact wk_ T [] rfl .nil
  ·have T:=an h1 T
   refine wa_ T (g:=?_)
   cases hr
   refine⟨.inr rfl,_,(ry T),?_⟩
   exact wk_ T [] rfl .nil
 rfl
end Go.Rex
namespace Go.Rex
open Go.Proofs
open Go Go.Rex Go.RowKit
set_option maxRecDepth 100000
set_option maxHeartbeats 1000000
def y61:=an @ag24 <| an @ag3 <| an @cs3 <| an @vW <| an @Br <| an @ok3 <| an @so24 <| @bD
theorem qY{v1:Int}{v2:(List Int)}{v3:Int}(hr:fT v1 v2=some (v3)):Spec (lim Tryz.prog) 54 [.agg [.v (.int .i64 v1),.list 1 (v2.map e_i)]] ⟨[.v (.int .i64 v3)],[]⟩:=by
 unfold fT at hr
 have T:=an y61 <| @e_i.eq_1
 apply Spec.fn Tryz.func54 rfl
 focus (simp[Tryz.f54]<;>exact rfl)
 focus
  refine wB T (g:=?_)
  obtain⟨v4,h1,hr⟩:=bs hr
  apply TO.cal (wn T) rfl Bz (gE h1) rfl rfl rfl
  repeat exact sd T
  refine wa_ T (g:=?_)
  apply TO.pop1 (wn T) (cG rfl)
  repeat exact sd T
  refine wa_ T (g:=?_)
  rcases ifs hr with⟨h2,hr⟩|⟨h2,hr⟩
  ·have T:=an h2 T
   refine wC T (g:=?_)
   rcases ifs hr with⟨h3,hr⟩|⟨h3,hr⟩
   ·have T:=an h3 T
    refine wa_ T (g:=?_)
    cases hr
    refine⟨.inr rfl,_,(ry T),?_⟩
    exact wk_ T [] rfl .nil
   ·have T:=an h3 T
    refine wa_ T (g:=?_)
    obtain⟨v13,h18,hr⟩:=bs hr
    refine TX.loopE (step:=dH v1 v2) (x:=0) h18 (fun v5=>⟨.Z::.fptr true [.v (.int .i64 v1),.list 1 (v2.map e_i)] 0::.Z::.v (.int .i64 v5)::.Z::.Z::.Z::.Z::.Z::.Z::.Z::.Z::.Z::.Z::.Z::.Z::.Z::.Z::.Z::.Z::.Z::.Z::.Z::.Z::.Z::.Z::.Z::.Z::.Z::.Z::.Z::.Z::.Z::.Z::.Z::.Z::.Z::.Z::.Z::.Z::.Z::.Z::.Z::.Z::.Z::.Z::.Z::.Z::.Z::.Z::.Z::.Z::.Z::.Z::.Z::[],[]⟩) (fun e=>match e with|(.inl v9)=>(.ret,⟨.Z::.Z::.v (.int .i64 v9)::.Z::.Z::.Z::.Z::.Z::.Z::.Z::.Z::.Z::.Z::.Z::.Z::.Z::.Z::.Z::.Z::.Z::.Z::.Z::.Z::.Z::.Z::.Z::.Z::.Z::.Z::.Z::.Z::.Z::.Z::.Z::.Z::.Z::.Z::.Z::.Z::.Z::.Z::.Z::.Z::.Z::.Z::.Z::.Z::.Z::.Z::.Z::.Z::.Z::.Z::.Z::.Z::[],[]⟩)|(.inr _)=>(.exit 0,⟨.Z::.fptr true [.v (.int .i64 v1),.list 1 (v2.map e_i)] 0::.Z::.Z::.Z::.Z::.Z::.Z::.Z::.Z::.Z::.Z::.Z::.Z::.Z::.Z::.Z::.Z::.Z::.Z::.Z::.Z::.Z::.Z::.Z::.Z::.Z::.Z::.Z::.Z::.Z::.Z::.Z::.Z::.Z::.Z::.Z::.Z::.Z::.Z::.Z::.Z::.Z::.Z::.Z::.Z::.Z::.Z::.Z::.Z::.Z::.Z::.Z::.Z::.Z::[],[]⟩)) ?_ ?_ ?_ ?_
    ·rintro v5 v0 hr
     dsimp only[dH] at hr
     try dsimp only
     refine wC T (g:=?_)
     rcases ifs hr with⟨h11,hr⟩|⟨h11,hr⟩
     ·have T:=an h11 T
      refine wA T (g:=?_)
      obtain⟨v10,h12,hr⟩:=bs hr
      have T:=an (gx e_i h12) T
      refine wA T (g:=?_)
      obtain⟨v11,h13,hr⟩:=bs hr
      apply TD.cal (wn T) rfl Bz (gE h13) rfl rfl rfl
      repeat exact sd T
      refine wa_ T (g:=?_)
      apply TD.pop1 (wn T) (cG rfl)
      repeat exact sd T
      refine wa_ T (g:=?_)
      rcases ifs hr with⟨h14,hr⟩|⟨h14,hr⟩
      ·have T:=an h14 T
       refine wa_ T (g:=?_)
       rcases ifs hr with⟨h15,hr⟩|⟨h15,hr⟩
       ·have T:=an h15 T
        refine wA T (g:=?_)
        obtain⟨v12,h16,hr⟩:=bs hr
        have T:=an (gx e_i h16) T
        refine wA T (g:=?_)
        rcases ifs hr with⟨h17,hr⟩|⟨h17,hr⟩
        ·have T:=an h17 T
         refine wa_ T (g:=?_)
         cases hr
         refine⟨rfl,?_⟩
         exact wk_ T [] rfl .nil
        ·have T:=an h17 T
         refine wa_ T (g:=?_)
         cases hr
         refine⟨rfl,?_⟩
         exact wk_ T [] rfl .nil
       ·have T:=an h15 T
        refine wa_ T (g:=?_)
        cases hr
        refine⟨rfl,?_⟩
        exact wk_ T [] rfl .nil
      ·have T:=an h14 T
       refine wa_ T (g:=?_)
       cases hr
       refine⟨rfl,?_⟩
       exact wk_ T [] rfl .nil
     ·have T:=an h11 T
      refine wa_ T (g:=?_)
      cases hr
      refine⟨rfl,?_⟩
      exact wk_ T [] rfl .nil
    ·intro e h;rcases e with _|e<;>cases h
    ·try dsimp only
     rcases v13 with v14|_
     ·try dsimp only at hr
      try dsimp only
      refine wa_ T (g:=?_)
      cases hr
      refine⟨.inr rfl,_,(ry T),?_⟩
      exact wk_ T [] rfl .nil
     ·try dsimp only at hr
      try dsimp only
      refine wC T (g:=?_)
      obtain⟨v15,h19,hr⟩:=bs hr
      have T:=an (gx e_i h19) T
      refine wA T (g:=?_)
      rcases ifs hr with⟨h20,hr⟩|⟨h20,hr⟩
      ·have T:=an h20 T
       refine wa_ T (g:=?_)
       cases hr
       refine⟨.inr rfl,_,(ry T),?_⟩
       exact wk_ T [] rfl .nil
      ·have T:=an h20 T
       refine wa_ T (g:=?_)
       cases hr
       refine⟨.inr rfl,_,(ry T),?_⟩
       exact wk_ T [] rfl .nil
    ·try dsimp only
     exact wk_ T [] rfl .nil
  ·have T:=an h2 T
   refine wa_ T (g:=?_)
   cases hr
   refine⟨.inr rfl,_,(ry T),?_⟩
   exact wk_ T [] rfl .nil
 rfl
end Go.Rex
namespace Go.Rex
open Go.Proofs
open Go Go.Rex Go.RowKit
set_option maxRecDepth 100000
set_option maxHeartbeats 200000
def y62:=an @ag3 <| an @vW <| an @bD <| @Xv
theorem lY{v1:Int}{v2:(List Int)}{v3:Int}(hr:iR v1 v2=some (v3)):Spec (lim Tryz.prog) 16 [.agg [.v (.int .i64 v1),.list 1 (v2.map e_i)]] ⟨[.v (.int .i64 v3)],[]⟩:=by
 unfold iR at hr
 have T:=an y62 <| @e_i.eq_1
 apply Spec.fn Tryz.func16 rfl
 focus (simp[Tryz.f16]<;>exact rfl)
 focus
  refine wb_ T (g:=?_)
  obtain⟨v7,h3,hr⟩:=bs hr
  refine TX.loopE (step:=kA v1) (x:=(1,0)) h3 (fun (v4,v5)=>⟨.Z::.fptr true [.v (.int .i64 v1),.list 1 (v2.map e_i)] 0::.Z::.v (.int .i64 v4)::.v (.int .i64 v5)::.Z::.Z::.Z::.Z::.Z::.Z::.Z::.Z::.Z::.Z::[],[]⟩) (fun v6=>(.exit 0,⟨.Z::.Z::.Z::.v (.int .i64 v6)::.Z::.Z::.Z::.Z::.Z::.Z::.Z::.Z::.Z::.Z::.Z::[],[]⟩)) ?_ ?_ ?_ ?_
  ·rintro⟨v4,v5⟩ v0 hr
   dsimp only[kA] at hr
   try dsimp only
   refine wA T (g:=?_)
   rcases ifs hr with⟨h2,hr⟩|⟨h2,hr⟩
   ·have T:=an h2 T
    refine wa_ T (g:=?_)
    cases hr
    refine⟨rfl,?_⟩
    exact wk_ T [] rfl .nil
   ·have T:=an h2 T
    refine wa_ T (g:=?_)
    cases hr
    refine⟨rfl,?_⟩
    exact wk_ T [] rfl .nil
  ·intro e h;cases h
  ·try dsimp only
   refine wa_ T (g:=?_)
   cases hr
   refine⟨.inr rfl,_,(ry T),?_⟩
   exact wr [] rfl .nil
  ·try dsimp only
   exact wr [] rfl .nil
 rfl
def y63:=an @ag26 <| an @cs26 <| @ok26
theorem xG{v1:Int}{v2:(List Int)}{v3:Int}{v4:Int}(hr:eH v1 v2 v3=some (v4)):Spec (lim Tryz.prog) 14 [.agg [.v (.int .i64 v1),.list 1 (v2.map e_i)],.v (.int .i64 v3)] ⟨[.v (.int .i64 v4)],[]⟩:=by
 unfold eH at hr
 have T:=an y63 <| @e_i.eq_1
 apply Spec.fn Tryz.func14 rfl
 focus (simp[Tryz.f14]<;>exact rfl)
 focus
  refine wB T (g:=?_)
  obtain⟨v5,h1,hr⟩:=bs hr
  apply TO.cal (wn T) rfl aCa (qY h1) rfl rfl rfl
  repeat exact sd T
  refine wa_ T (g:=?_)
  rcases ifs hr with⟨h2,hr⟩|⟨h2,hr⟩
  ·have T:=an h2 T
   refine wa_ T (g:=?_)
   cases hr
   refine⟨.inr rfl,_,(ry T),?_⟩
   exact wk_ T [] rfl .nil
  ·have T:=an h2 T
   refine wA T (g:=?_)
   obtain⟨v6,h3,hr⟩:=bs hr
   apply TO.cal (wn T) rfl Lq (lY h3) rfl rfl rfl
   repeat exact sd T
   refine wa_ T (g:=?_)
   obtain⟨v7,h4,hr⟩:=bs hr
   apply TO.cal (wn T) rfl Bz (gE h4) rfl rfl rfl
   repeat exact sd T
   refine wa_ T (g:=?_)
   apply TO.pop1 (wn T) (cG rfl)
   repeat exact sd T
   refine wa_ T (g:=?_)
   rcases ifs hr with⟨h5,hr⟩|⟨h5,hr⟩
   ·have T:=an h5 T
    refine wa_ T (g:=?_)
    cases hr
    refine⟨.inr rfl,_,(ry T),?_⟩
    exact wk_ T [] rfl .nil
   ·have T:=an h5 T
    refine wa_ T (g:=?_)
    cases hr
    refine⟨.inr rfl,_,(ry T),?_⟩
    exact wk_ T [] rfl .nil
 rfl
def y64:=an @pP <| @Qz
theorem yE{v1:Int}{v2:Bool}(hr:lM v1=some (v2)):Spec (lim Tryz.prog) 62 [.v (.int .i64 v1)] ⟨[.v (.bool v2)],[]⟩:=by
 unfold lM at hr
 have T:=y64
 apply Spec.fn Tryz.func62 rfl
 focus (simp[Tryz.f62]<;>exact rfl)
 focus
  refine wa_ T (g:=?_)
  rcases ifs hr with⟨h1,hr⟩|⟨h1,hr⟩
  ·have T:=an h1 T
   refine wa_ T (g:=?_)
   cases hr
   refine⟨.inr rfl,_,(ry T),?_⟩
   exact wk_ T [] rfl .nil
  ·have T:=an h1 T
   refine wa_ T (g:=?_)
   obtain⟨v4,h8,hr⟩:=bs hr
   refine TX.loopE (step:=lD v1) (x:=2) h8 (fun v3=>⟨.v (.int .i64 v1)::.Z::.Z::.v (.int .i64 v3)::.Z::.Z::.Z::.Z::.Z::.Z::.Z::.Z::.Z::.Z::.Z::.Z::.Z::[],[]⟩) (fun e=>match e with|(.inl _)=>(.ret,⟨.Z::.Z::.v (.bool false)::.Z::.Z::.Z::.Z::.Z::.Z::.Z::.Z::.Z::.Z::.Z::.Z::.Z::.Z::[],[]⟩)|(.inr _)=>(.exit 0,⟨.Z::.Z::.Z::.Z::.Z::.Z::.Z::.Z::.Z::.Z::.Z::.Z::.Z::.Z::.Z::.Z::.Z::[],[]⟩)) ?_ ?_ ?_ ?_
   ·rintro v3 v0 hr
    dsimp only[lD] at hr
    try dsimp only
    refine wa_ T (g:=?_)
    rcases ifs hr with⟨h5,hr⟩|⟨h5,hr⟩
    ·have T:=an h5 T
     refine wa_ T (g:=?_)
     by_cases h6:v3=0
     ·rw[if_pos h6] at hr
      cases hr
     ·rw[if_neg h6] at hr
      have T:=an h6 T
      refine wa_ T (g:=?_)
      rcases ifs hr with⟨h7,hr⟩|⟨h7,hr⟩
      ·have T:=an h7 T
       refine wa_ T (g:=?_)
       cases hr
       refine⟨rfl,?_⟩
       exact wk_ T [] rfl .nil
      ·have T:=an h7 T
       refine wa_ T (g:=?_)
       cases hr
       refine⟨rfl,?_⟩
       exact wk_ T [] rfl .nil
    ·have T:=an h5 T
     refine wa_ T (g:=?_)
     cases hr
     refine⟨rfl,?_⟩
     exact wk_ T [] rfl .nil
   ·intro e h;rcases e with _|e<;>cases h
   ·try dsimp only
    rcases v4 with _|_
    ·try dsimp only at hr
     try dsimp only
     refine wa_ T (g:=?_)
     cases hr
     refine⟨.inr rfl,_,(ry T),?_⟩
     exact wk_ T [] rfl .nil
    ·try dsimp only at hr
     try dsimp only
     refine wa_ T (g:=?_)
     cases hr
     refine⟨.inr rfl,_,(ry T),?_⟩
     exact wk_ T [] rfl .nil
   ·try dsimp only
    exact wk_ T [] rfl .nil
 rfl
theorem lC{v1:Int}{v2:Int}{v3:Int}{v4:Int}(hr:gB v1 v2 v3=some (v4)):Spec (lim Tryz.prog) 98 [.v (.int .i64 v1),.v (.int .i64 v2),.v (.int .i64 v3)] ⟨[.v (.int .i64 v4)],[]⟩:=by
 unfold gB at hr
 have T:=trivial
 apply Spec.fn Tryz.func98 rfl
 focus (simp[Tryz.f98]<;>exact rfl)
 focus
  refine wa_ T (g:=?_)
  by_cases h1:v3=0
  ·rw[if_pos h1] at hr
   cases hr
  ·rw[if_neg h1] at hr
   have T:=an h1 T
   refine wa_ T (g:=?_)
   obtain⟨v9,h6,hr⟩:=bs hr
   refine TX.loopE (step:=gN v3) (x:=(v1,v2,((1:Int).tmod v3))) h6 (fun (v5,v6,v7)=>⟨.v (.int .i64 v5)::.v (.int .i64 v6)::.v (.int .i64 v3)::.Z::.Z::.Z::.Z::.v (.int .i64 v7)::.Z::.Z::.Z::.Z::.Z::.Z::.Z::.Z::.Z::.Z::.Z::.Z::.Z::.Z::.Z::.Z::.Z::.Z::.Z::.Z::[],[]⟩) (fun v8=>(.exit 0,⟨.Z::.Z::.Z::.Z::.Z::.Z::.Z::.v (.int .i64 v8)::.Z::.Z::.Z::.Z::.Z::.Z::.Z::.Z::.Z::.Z::.Z::.Z::.Z::.Z::.Z::.Z::.Z::.Z::.Z::.Z::[],[]⟩)) ?_ ?_ ?_ ?_
   ·rintro⟨v5,v6,v7⟩ v0 hr
    dsimp only[gN] at hr
    try dsimp only
    refine wa_ T (g:=?_)
    rcases ifs hr with⟨h4,hr⟩|⟨h4,hr⟩
    ·have T:=an h4 T
     refine wa_ T (g:=?_)
     rcases ifs hr with⟨h5,hr⟩|⟨h5,hr⟩
     ·have T:=an h5 T
      refine wa_ T (g:=?_)
      cases hr
      refine⟨rfl,?_⟩
      exact wk_ T [] rfl .nil
     ·have T:=an h5 T
      refine wa_ T (g:=?_)
      cases hr
      refine⟨rfl,?_⟩
      exact wk_ T [] rfl .nil
    ·have T:=an h4 T
     refine wa_ T (g:=?_)
     cases hr
     refine⟨rfl,?_⟩
     exact wk_ T [] rfl .nil
   ·intro e h;cases h
   ·try dsimp only
    refine wa_ T (g:=?_)
    cases hr
    refine⟨.inr rfl,_,(ry T),?_⟩
    exact wr [] rfl .nil
   ·try dsimp only
    exact wr [] rfl .nil
 rfl
end Go.Rex
namespace Go.Rex
open Go.Proofs
open Go Go.Rex Go.RowKit
set_option maxRecDepth 100000
set_option maxHeartbeats 1000000
def y65:=an @by3 <| an @cs3 <| an @ni24 <| an @so24 <| an @zc3 <| @pP
theorem Bc{v1:Int}{v2:(List Int)}(hr:mV v1=some (v2)):Spec (lim Tryz.prog) 99 [.v (.int .i64 v1)] ⟨[.lsl 0 0 v2.length],[.rows 1 (v2.map e_i)]⟩:=by
 unfold mV at hr
 have T:=an y65 <| @e_i.eq_1
 apply Spec.fn Tryz.func99 rfl
 focus (simp[Tryz.f99]<;>exact rfl)
 focus
  refine wa_ T (g:=?_)
  apply TX.vt (α:=Int) e_i 3 1 rfl
  repeat exact sd T
  with_reducible apply TX.here
  refine wa_ T (g:=?_)
  obtain⟨v15,h17,hr⟩:=bs hr
  refine TX.loopE (step:=eS) (x:=(v1,([]:List Int),2)) h17 (fun (v3,v4,v5)=>⟨.v (.int .i64 v3)::.Z::.Z::.lsl 0 0 v4.length::.v (.int .i64 v5)::.Z::.Z::.Z::.Z::.Z::.Z::.Z::.Z::.Z::.Z::.Z::.Z::.Z::.Z::.Z::.Z::.Z::.Z::.Z::.Z::[],[.rows 1 (v4.map e_i)]⟩) (fun v10=>(.exit 0,⟨.Z::.Z::.Z::.lsl 0 0 v10.length::.Z::.Z::.Z::.Z::.Z::.Z::.Z::.Z::.Z::.Z::.Z::.Z::.Z::.Z::.Z::.Z::.Z::.Z::.Z::.Z::.Z::[],[.rows 1 (v10.map e_i)]⟩)) ?_ ?_ ?_ ?_
  ·rintro⟨v3,v4,v5⟩ v0 hr
   dsimp only[eS] at hr
   try dsimp only
   refine wa_ T (g:=?_)
   rcases ifs hr with⟨h9,hr⟩|⟨h9,hr⟩
   ·have T:=an h9 T
    refine wa_ T (g:=?_)
    by_cases h10:v5=0
    ·rw[if_pos h10] at hr
     cases hr
    ·rw[if_neg h10] at hr
     have T:=an h10 T
     refine wa_ T (g:=?_)
     rcases ifs hr with⟨h11,hr⟩|⟨h11,hr⟩
     ·have T:=an h11 T
      refine wa_ T (g:=?_)
      apply TO.bm e_i ([v5]:List Int) (wn T) rfl (by simp only[zz,y65,e_i,Nat.reduceAdd,Nat.reduceMul,Nat.reduceLeDiff,Nat.reduceEqDiff,tslice,tparts,h9,h10,h11];exact rfl) rfl
      repeat exact sd T
      refine wa_ T (g:=?_)
      obtain⟨v11,h12,hr⟩:=bs hr
      apply TO.ap (f:=e_i) (xs:=v4) (ys:=([v5]:List Int)) (wn T) rfl rfl (by first|rfl|simp only[List.length_set]) rfl rfl so24 ni24 zc3 rfl (by rw[by3];exact h12) (fun _=>⟨rfl,rfl,rfl⟩)
      repeat exact sd T
      refine wa_ T (g:=?_)
      obtain⟨v14,h15,hr⟩:=bs hr
      refine TX.loopE (step:=iB v5) (x:=v3) h15 (fun v12=>⟨.v (.int .i64 v12)::.Z::.Z::.lsl 0 0 v11.length::.v (.int .i64 v5)::.Z::.Z::.Z::.Z::.Z::.Z::.Z::.Z::.Z::.Z::.Z::.Z::.Z::.Z::.Z::.Z::.Z::.Z::.Z::.Z::[],[.rows 1 (v11.map e_i)]⟩) (fun v13=>(.exit 2,⟨.v (.int .i64 v13)::.Z::.Z::.lsl 0 0 v11.length::.v (.int .i64 v5)::.Z::.Z::.Z::.Z::.Z::.Z::.Z::.Z::.Z::.Z::.Z::.Z::.Z::.Z::.Z::.Z::.Z::.Z::.Z::.Z::[],[.rows 1 (v11.map e_i)]⟩)) ?_ ?_ ?_ ?_
      ·rintro v12 v0 hr
       dsimp only[iB] at hr
       try dsimp only
       refine wa_ T (g:=?_)
       rcases ifs hr with⟨h14,hr⟩|⟨h14,hr⟩
       ·have T:=an h14 T
        refine wa_ T (g:=?_)
        cases hr
        refine⟨rfl,?_⟩
        exact wk_ T [some 0] rfl (.rows .nil rfl rfl)
       ·have T:=an h14 T
        refine wa_ T (g:=?_)
        cases hr
        refine⟨rfl,?_⟩
        exact wk_ T [some 0] rfl (.rows .nil rfl rfl)
      ·intro e h;cases h
      ·try dsimp only
       refine wa_ T (g:=?_)
       cases hr
       refine⟨rfl,?_⟩
       exact wk_ T [some 0] rfl (.rows .nil rfl rfl)
      ·try dsimp only
       exact wk_ T [some 0] rfl (.rows .nil rfl rfl)
     ·have T:=an h11 T
      refine wa_ T (g:=?_)
      obtain⟨_,h16,hr⟩:=bs hr
      refine TX.loopE (step:=lX) (x:=()) h16 (fun _=>⟨.v (.int .i64 v3)::.Z::.Z::.lsl 0 0 v4.length::.v (.int .i64 v5)::.Z::.Z::.Z::.Z::.Z::.Z::.Z::.Z::.Z::.Z::.Z::.Z::.Z::.Z::.Z::.Z::.Z::.Z::.Z::.Z::[],[.rows 1 (v4.map e_i)]⟩) (fun _=>(.exit 2,⟨.v (.int .i64 v3)::.Z::.Z::.lsl 0 0 v4.length::.v (.int .i64 v5)::.Z::.Z::.Z::.Z::.Z::.Z::.Z::.Z::.Z::.Z::.Z::.Z::.Z::.Z::.Z::.Z::.Z::.Z::.Z::.Z::[],[.rows 1 (v4.map e_i)]⟩)) ?_ ?_ ?_ ?_
      ·rintro _ v0 hr
       dsimp only[lX] at hr
       try dsimp only
       refine wa_ T (g:=?_)
       cases hr
       refine⟨rfl,?_⟩
       exact wk_ T [some 0] rfl (.rows .nil rfl rfl)
      ·intro e h;cases h
      ·try dsimp only
       refine wa_ T (g:=?_)
       cases hr
       refine⟨rfl,?_⟩
       exact wk_ T [some 0] rfl (.rows .nil rfl rfl)
      ·try dsimp only
       exact wk_ T [some 0] rfl (.rows .nil rfl rfl)
   ·have T:=an h9 T
    refine wa_ T (g:=?_)
    cases hr
    refine⟨rfl,?_⟩
    exact wk_ T [some 0] rfl (.rows .nil rfl rfl)
  ·intro e h;cases h
  ·try dsimp only
   refine wa_ T (g:=?_)
   cases hr
   refine⟨.inr rfl,_,(ry T),?_⟩
   exact wr [some 0] rfl (.rows .nil rfl rfl)
  ·try dsimp only
   exact wr [some 0] rfl (.rows .nil rfl rfl)
 rfl
def y66:=an @ag3 <| an @cs3 <| an @ok3 <| an @so24 <| @bD
theorem Au{v1:Int}{v2:Int}{v3:Int}{v4:Bool}(hr:nF v1 v2 v3=some (v4)):Spec (lim Tryz.prog) 63 [.v (.int .i64 v1),.v (.int .i64 v2),.v (.int .i64 v3)] ⟨[.v (.bool v4)],[]⟩:=by
 unfold nF at hr
 have T:=an y66 <| @e_i.eq_1
 apply Spec.fn Tryz.func63 rfl
 focus (simp[Tryz.f63]<;>exact rfl)
 focus
  refine wa_ T (g:=?_)
  obtain⟨v5,h1,hr⟩:=bs hr
  apply TD.cal (wn T) rfl Lu (lC h1) rfl rfl rfl
  repeat exact sd T
  refine wa_ T (g:=?_)
  by_cases h2:v3=0
  ·rw[if_pos h2] at hr
   cases hr
  ·rw[if_neg h2] at hr
   have T:=an h2 T
   refine wa_ T (g:=?_)
   rcases ifs hr with⟨h3,hr⟩|⟨h3,hr⟩
   ·have T:=an h3 T
    refine wa_ T (g:=?_)
    cases hr
    refine⟨.inr rfl,_,(ry T),?_⟩
    exact wk_ T [] rfl .nil
   ·have T:=an h3 T
    refine wa_ T (g:=?_)
    obtain⟨v6,h4,hr⟩:=bs hr
    apply TO.cal (wn T) rfl aCg (Bc h4) rfl rfl rfl
    repeat exact sd T
    refine wa_ T (g:=?_)
    obtain⟨v12,h15,hr⟩:=bs hr
    refine TX.loopE (step:=dV v1 v2 v3 v6) (x:=0) h15 (fun v7=>⟨.v (.int .i64 v1)::.v (.int .i64 v2)::.v (.int .i64 v3)::.Z::.Z::.Z::.Z::.lsl 0 0 v6.length::.v (.int .i64 v7)::.Z::.Z::.Z::.Z::.Z::.Z::.Z::.Z::.Z::.Z::.Z::.Z::.Z::.Z::.Z::.Z::.Z::.Z::.Z::.Z::.Z::.Z::.Z::.Z::.Z::.Z::.Z::[],[.rows 1 (v6.map e_i)]⟩) (fun e=>match e with|(.inl _)=>(.ret,⟨.Z::.Z::.Z::.Z::.Z::.Z::.v (.bool false)::.Z::.Z::.Z::.Z::.Z::.Z::.Z::.Z::.Z::.Z::.Z::.Z::.Z::.Z::.Z::.Z::.Z::.Z::.Z::.Z::.Z::.Z::.Z::.Z::.Z::.Z::.Z::.Z::.Z::[],[]⟩)|(.inr _)=>(.exit 0,⟨.Z::.Z::.Z::.Z::.Z::.Z::.Z::.Z::.Z::.Z::.Z::.Z::.Z::.Z::.Z::.Z::.Z::.Z::.Z::.Z::.Z::.Z::.Z::.Z::.Z::.Z::.Z::.Z::.Z::.Z::.Z::.Z::.Z::.Z::.Z::.Z::[],[]⟩)) ?_ ?_ ?_ ?_
    ·rintro v7 v0 hr
     dsimp only[dV] at hr
     try dsimp only
     refine wc_ T (g:=?_)
     rcases ifs hr with⟨h10,hr⟩|⟨h10,hr⟩
     ·have T:=an h10 T
      refine wa_ T (g:=?_)
      obtain⟨v10,h11,hr⟩:=bs hr
      have T:=an (gx e_i h11) T
      refine wA T (g:=?_)
      by_cases h12:v10=0
      ·rw[if_pos h12] at hr
       cases hr
      ·rw[if_neg h12] at hr
       have T:=an h12 T
       refine wa_ T (g:=?_)
       obtain⟨v11,h13,hr⟩:=bs hr
       apply TD.cal (wn T) rfl Lu (lC h13) rfl rfl rfl
       repeat exact sd T
       refine wa_ T (g:=?_)
       rcases ifs hr with⟨h14,hr⟩|⟨h14,hr⟩
       ·have T:=an h14 T
        refine wa_ T (g:=?_)
        cases hr
        refine⟨rfl,?_⟩
        exact wk_ T [] rfl .nil
       ·have T:=an h14 T
        refine wa_ T (g:=?_)
        cases hr
        refine⟨rfl,?_⟩
        exact wk_ T [some 0] rfl (.rows .nil rfl rfl)
     ·have T:=an h10 T
      refine wa_ T (g:=?_)
      cases hr
      refine⟨rfl,?_⟩
      exact wk_ T [] rfl .nil
    ·intro e h;rcases e with _|e<;>cases h
    ·try dsimp only
     rcases v12 with _|_
     ·try dsimp only at hr
      try dsimp only
      refine wa_ T (g:=?_)
      cases hr
      refine⟨.inr rfl,_,(ry T),?_⟩
      exact wk_ T [] rfl .nil
     ·try dsimp only at hr
      try dsimp only
      refine wa_ T (g:=?_)
      cases hr
      refine⟨.inr rfl,_,(ry T),?_⟩
      exact wk_ T [] rfl .nil
    ·try dsimp only
     exact wk_ T [some 0] rfl (.rows .nil rfl rfl)
 rfl
def y67:=an @ag3 <| an @qE <| an @zB <| @rG
theorem uB{v1:Int}{v2:Int}{v3:Int}{v4:Int}(hr:dG v1 v2 v3=some (v4)):Spec (lim Tryz.prog) 21 [.agg [.v (.int .i64 v1),.v (.int .i64 v2),.v (.int .i64 v3)]] ⟨[.v (.int .i64 v4)],[]⟩:=by
 unfold dG at hr
 have T:=y67
 apply Spec.fn Tryz.func21 rfl
 focus (simp[Tryz.f21]<;>exact rfl)
 focus
  refine wB T (g:=?_)
  obtain⟨v5,h1,hr⟩:=bs hr
  apply TO.cal (wn T) rfl Bz (gE h1) rfl rfl rfl
  repeat exact sd T
  refine wa_ T (g:=?_)
  apply TO.pop1 (wn T) (cG rfl)
  repeat exact sd T
  refine wa_ T (g:=?_)
  rcases ifs hr with⟨h2,hr⟩|⟨h2,hr⟩
  ·have T:=an h2 T
   refine wA T (g:=?_)
   obtain⟨v6,h3,hr⟩:=bs hr
   apply TO.cal (wn T) rfl Bz (gE h3) rfl rfl rfl
   repeat exact sd T
   refine wa_ T (g:=?_)
   apply TO.pop1 (wn T) (cG rfl)
   repeat exact sd T
   refine wa_ T (g:=?_)
   rcases ifs hr with⟨h4,hr⟩|⟨h4,hr⟩
   ·have T:=an h4 T
    refine wA T (g:=?_)
    obtain⟨v7,h5,hr⟩:=bs hr
    apply TO.cal (wn T) rfl Bz (gE h5) rfl rfl rfl
    repeat exact sd T
    refine wa_ T (g:=?_)
    apply TO.pop1 (wn T) (cG rfl)
    repeat exact sd T
    refine wa_ T (g:=?_)
    rcases ifs hr with⟨h6,hr⟩|⟨h6,hr⟩
    ·have T:=an h6 T
     refine wA T (g:=?_)
     obtain⟨v8,h7,hr⟩:=bs hr
     apply TO.cal (wn T) rfl aCB (yE h7) rfl rfl rfl
     repeat exact sd T
     refine wa_ T (g:=?_)
     apply TO.pop1 (wn T) (cG rfl)
     repeat exact sd T
     refine wa_ T (g:=?_)
     rcases ifs hr with⟨h8,hr⟩|⟨h8,hr⟩
     ·have T:=an h8 T
      refine wA T (g:=?_)
      by_cases h9:v3=0
      ·rw[if_pos h9] at hr
       cases hr
      ·rw[if_neg h9] at hr
       have T:=an h9 T
       refine wa_ T (g:=?_)
       rcases ifs hr with⟨h10,hr⟩|⟨h10,hr⟩
       ·have T:=an h10 T
        refine wa_ T (g:=?_)
        cases hr
        refine⟨.inr rfl,_,(ry T),?_⟩
        exact wk_ T [] rfl .nil
       ·have T:=an h10 T
        refine wA T (g:=?_)
        obtain⟨v9,h11,hr⟩:=bs hr
        apply TO.cal (wn T) rfl aB0 (Au h11) rfl rfl rfl
        repeat exact sd T
        refine wa_ T (g:=?_)
        apply TO.pop1 (wn T) (cG rfl)
        repeat exact sd T
        refine wa_ T (g:=?_)
        rcases ifs hr with⟨h12,hr⟩|⟨h12,hr⟩
        ·have T:=an h12 T
         refine wa_ T (g:=?_)
         cases hr
         refine⟨.inr rfl,_,(ry T),?_⟩
         exact wk_ T [] rfl .nil
        ·have T:=an h12 T
         refine wa_ T (g:=?_)
         cases hr
         refine⟨.inr rfl,_,(ry T),?_⟩
         exact wk_ T [] rfl .nil
     ·have T:=an h8 T
      refine wa_ T (g:=?_)
      cases hr
      refine⟨.inr rfl,_,(ry T),?_⟩
      exact wk_ T [] rfl .nil
    ·have T:=an h6 T
     refine wa_ T (g:=?_)
     cases hr
     refine⟨.inr rfl,_,(ry T),?_⟩
     exact wk_ T [] rfl .nil
   ·have T:=an h4 T
    refine wa_ T (g:=?_)
    cases hr
    refine⟨.inr rfl,_,(ry T),?_⟩
    exact wk_ T [] rfl .nil
  ·have T:=an h2 T
   refine wa_ T (g:=?_)
   cases hr
   refine⟨.inr rfl,_,(ry T),?_⟩
   exact wk_ T [] rfl .nil
 rfl
def y68:=an @ag24 <| an @ag3 <| an @by3 <| an @cs3 <| an @vW <| an @Br <| an @ni24 <| an @ok3 <| an @so24 <| an @zc3 <| @bD
theorem tV{v1:Int}{v2:(List Int)}{v3:Int}{v4:Int}{v5:(List Int)}(hr:nL v1 v2 v3 v4=some (v5)):Spec (lim Tryz.prog) 92 [.agg [.v (.int .i64 v1),.list 1 (v2.map e_i)],.v (.int .i64 v3),.v (.int .i64 v4)] ⟨[.lsl 0 0 v5.length],[.rows 1 (v5.map e_i)]⟩:=by
 unfold nL at hr
 have T:=an y68 <| @e_i.eq_1
 apply Spec.fn Tryz.func92 rfl
 focus (simp[Tryz.f92]<;>exact rfl)
 focus
  refine wb_ T (g:=?_)
  apply TX.vt (α:=Int) e_i 7 1 rfl
  repeat exact sd T
  with_reducible apply TX.here
  refine wa_ T (g:=?_)
  obtain⟨v30,h23,hr⟩:=bs hr
  refine TX.loopE (step:=jZ v1 v2 v4) (x:=(v3,([]:List Int),0)) h23 (fun (v6,v7,v8)=>⟨.Z::.v (.int .i64 v6)::.v (.int .i64 v4)::.fptr true [.v (.int .i64 v1),.list 1 (v2.map e_i)] 0::.Z::.Z::.Z::.lsl 0 0 v7.length::.v (.int .i64 v8)::.Z::.Z::.Z::.Z::.Z::.Z::.Z::.Z::.Z::.Z::.Z::.Z::.Z::.Z::.Z::.Z::.Z::.Z::.Z::.Z::.Z::.Z::.Z::.Z::.Z::.Z::.Z::.Z::.Z::.Z::.Z::.Z::.Z::.Z::.Z::.Z::.Z::.Z::.Z::.Z::.Z::.Z::.Z::[],[.rows 1 (v7.map e_i)]⟩) (fun v19=>(.exit 0,⟨.Z::.Z::.Z::.Z::.Z::.Z::.Z::.lsl 0 0 v19.length::.Z::.Z::.Z::.Z::.Z::.Z::.Z::.Z::.Z::.Z::.Z::.Z::.Z::.Z::.Z::.Z::.Z::.Z::.Z::.Z::.Z::.Z::.Z::.Z::.Z::.Z::.Z::.Z::.Z::.Z::.Z::.Z::.Z::.Z::.Z::.Z::.Z::.Z::.Z::.Z::.Z::.Z::.Z::.Z::[],[.rows 1 (v19.map e_i)]⟩)) ?_ ?_ ?_ ?_
  ·rintro⟨v6,v7,v8⟩ v0 hr
   dsimp only[jZ] at hr
   try dsimp only
   refine wa_ T (g:=?_)
   rcases ifs hr with⟨h12,hr⟩|⟨h12,hr⟩
   ·have T:=an h12 T
    refine wA T (g:=?_)
    rcases ifs hr with⟨h13,hr⟩|⟨h13,hr⟩
    ·have T:=an h13 T
     refine wa_ T (g:=?_)
     apply TO.bm e_i ([(v6.tmod 2)]:List Int) (wn T) rfl (by simp only[zz,y68,e_i,Nat.reduceAdd,Nat.reduceMul,Nat.reduceLeDiff,Nat.reduceEqDiff,tslice,tparts,h12,h13];exact rfl) rfl
     repeat exact sd T
     refine wa_ T (g:=?_)
     obtain⟨v20,h14,hr⟩:=bs hr
     apply TO.ap (f:=e_i) (xs:=v7) (ys:=([(v6.tmod 2)]:List Int)) (wn T) rfl rfl (by first|rfl|simp only[List.length_set]) rfl rfl so24 ni24 zc3 rfl (by rw[by3];exact h14) (fun _=>⟨rfl,rfl,rfl⟩)
     repeat exact sd T
     refine wa_ T (g:=?_)
     cases hr
     refine⟨rfl,?_⟩
     exact wk_ T [some 0] rfl (.rows .nil rfl rfl)
    ·have T:=an h13 T
     refine wa_ T (g:=?_)
     obtain⟨v28,h21,hr⟩:=bs hr
     refine TX.loopE (step:=kD v2 v7 v8) (x:=(0,0)) h21 (fun (v21,v22)=>⟨.Z::.v (.int .i64 v6)::.v (.int .i64 v4)::.fptr true [.v (.int .i64 v1),.list 1 (v2.map e_i)] 0::.Z::.Z::.Z::.lsl 0 0 v7.length::.v (.int .i64 v8)::.v (.int .i64 v21)::.v (.int .i64 v22)::.Z::.Z::.Z::.Z::.Z::.Z::.Z::.Z::.Z::.Z::.Z::.Z::.Z::.Z::.Z::.Z::.Z::.Z::.Z::.Z::.Z::.Z::.Z::.Z::.Z::.Z::.Z::.Z::.Z::.Z::.Z::.Z::.Z::.Z::.Z::.Z::.Z::.Z::.Z::.Z::.Z::[],[.rows 1 (v7.map e_i)]⟩) (fun v25=>(.exit 2,⟨.Z::.v (.int .i64 v6)::.v (.int .i64 v4)::.fptr true [.v (.int .i64 v1),.list 1 (v2.map e_i)] 0::.Z::.Z::.Z::.lsl 0 0 v7.length::.v (.int .i64 v8)::.v (.int .i64 v25)::.Z::.Z::.Z::.Z::.Z::.Z::.Z::.Z::.Z::.Z::.Z::.Z::.Z::.Z::.Z::.Z::.Z::.Z::.Z::.Z::.Z::.Z::.Z::.Z::.Z::.Z::.Z::.Z::.Z::.Z::.Z::.Z::.Z::.Z::.Z::.Z::.Z::.Z::.Z::.Z::.Z::.Z::[],[.rows 1 (v7.map e_i)]⟩)) ?_ ?_ ?_ ?_
     ·rintro⟨v21,v22⟩ v0 hr
      dsimp only[kD] at hr
      try dsimp only
      refine wC T (g:=?_)
      rcases ifs hr with⟨h18,hr⟩|⟨h18,hr⟩
      ·have T:=an h18 T
       refine wA T (g:=?_)
       obtain⟨v26,h19,hr⟩:=bs hr
       have T:=an (gx e_i h19) T
       refine wA T (g:=?_)
       obtain⟨v27,h20,hr⟩:=bs hr
       have T:=an (gx e_i h20) T
       refine wA T (g:=?_)
       cases hr
       refine⟨rfl,?_⟩
       exact wk_ T [some 0] rfl (.rows .nil rfl rfl)
      ·have T:=an h18 T
       refine wa_ T (g:=?_)
       cases hr
       refine⟨rfl,?_⟩
       exact wk_ T [some 0] rfl (.rows .nil rfl rfl)
     ·intro e h;cases h
     ·try dsimp only
      refine wa_ T (g:=?_)
      apply TO.bm e_i ([(v28.tmod 2)]:List Int) (wn T) rfl (by simp only[zz,y68,e_i,Nat.reduceAdd,Nat.reduceMul,Nat.reduceLeDiff,Nat.reduceEqDiff,tslice,tparts,h12,h13];exact rfl) rfl
      repeat exact sd T
      refine wa_ T (g:=?_)
      obtain⟨v29,h22,hr⟩:=bs hr
      apply TO.ap (f:=e_i) (xs:=v7) (ys:=([(v28.tmod 2)]:List Int)) (wn T) rfl rfl (by first|rfl|simp only[List.length_set]) rfl rfl so24 ni24 zc3 rfl (by rw[by3];exact h22) (fun _=>⟨rfl,rfl,rfl⟩)
      repeat exact sd T
      refine wa_ T (g:=?_)
      cases hr
      refine⟨rfl,?_⟩
      exact wk_ T [some 0] rfl (.rows .nil rfl rfl)
     ·try dsimp only
      exact wk_ T [some 0] rfl (.rows .nil rfl rfl)
   ·have T:=an h12 T
    refine wa_ T (g:=?_)
    cases hr
    refine⟨rfl,?_⟩
    exact wk_ T [some 0] rfl (.rows .nil rfl rfl)
  ·intro e h;cases h
  ·try dsimp only
   refine wa_ T (g:=?_)
   cases hr
   refine⟨.inr rfl,_,(ry T),?_⟩
   exact wr [some 0] rfl (.rows .nil rfl rfl)
  ·try dsimp only
   exact wr [some 0] rfl (.rows .nil rfl rfl)
 rfl
end Go.Rex
namespace Go.Rex
open Go.Proofs
open Go Go.Rex Go.RowKit
set_option maxRecDepth 100000
set_option maxHeartbeats 200000
def y69:=an @ag26 <| an @ag3 <| an @cs26 <| an @cs3 <| an @vW <| an @ok26 <| an @ok3 <| an @so24 <| @Zz
theorem tS{v1:Int}{v2:(List Int)}{v3:Int}{v4:Int}(hr:nU v1 v2 v3=some (v4)):Spec (lim Tryz.prog) 95 [.agg [.v (.int .i64 v1),.list 1 (v2.map e_i)],.v (.int .i64 v3)] ⟨[.v (.int .i64 v4)],[]⟩:=by
 unfold nU at hr
 have T:=an y69 <| @e_i.eq_1
 apply Spec.fn Tryz.func95 rfl
 focus (simp[Tryz.f95]<;>exact rfl)
 focus
  refine wB T (g:=?_)
  obtain⟨v5,h1,hr⟩:=bs hr
  apply TO.cal (wn T) rfl Zd (tV h1) rfl rfl rfl
  repeat exact sd T
  refine wA T (g:=?_)
  obtain⟨v11,h6,hr⟩:=bs hr
  refine TX.loopE (step:=jW v5) (x:=(0,v1)) h6 (fun (v6,v7)=>⟨.Z::.Z::.Z::.Z::.Z::.lsl 0 0 v5.length::.v (.int .i64 v6)::.v (.int .i64 v7)::.Z::.Z::.Z::.Z::.Z::.Z::.Z::.Z::.Z::.Z::.Z::.Z::.Z::.Z::.Z::.Z::.Z::.Z::.Z::.Z::[],[.rows 1 (v5.map e_i)]⟩) (fun v9=>(.exit 0,⟨.Z::.Z::.Z::.Z::.Z::.Z::.v (.int .i64 v9)::.Z::.Z::.Z::.Z::.Z::.Z::.Z::.Z::.Z::.Z::.Z::.Z::.Z::.Z::.Z::.Z::.Z::.Z::.Z::.Z::.Z::[],[]⟩)) ?_ ?_ ?_ ?_
  ·rintro⟨v6,v7⟩ v0 hr
   dsimp only[jW] at hr
   try dsimp only
   refine wa_ T (g:=?_)
   rcases ifs hr with⟨h4,hr⟩|⟨h4,hr⟩
   ·have T:=an h4 T
    refine wa_ T (g:=?_)
    obtain⟨v10,h5,hr⟩:=bs hr
    have T:=an (gx e_i h5) T
    refine wA T (g:=?_)
    cases hr
    refine⟨rfl,?_⟩
    exact wk_ T [some 0] rfl (.rows .nil rfl rfl)
   ·have T:=an h4 T
    refine wa_ T (g:=?_)
    cases hr
    refine⟨rfl,?_⟩
    exact wk_ T [] rfl .nil
  ·intro e h;cases h
  ·try dsimp only
   refine wa_ T (g:=?_)
   cases hr
   refine⟨.inr rfl,_,(ry T),?_⟩
   exact wr [] rfl .nil
  ·try dsimp only
   exact wr [some 0] rfl (.rows .nil rfl rfl)
 rfl
def y70:=an @ag26 <| an @cs26 <| an @ok26 <| @mS
theorem zX{v1:Int}{v2:(List Int)}{v3:Int}{v4:Int}(hr:nC v1 v2 v3=some (v4)):Spec (lim Tryz.prog) 55 [.agg [.v (.int .i64 v1),.list 1 (v2.map e_i)],.v (.int .i64 v3)] ⟨[.v (.int .i64 v4)],[]⟩:=by
 unfold nC at hr
 have T:=an y70 <| @e_i.eq_1
 apply Spec.fn Tryz.func55 rfl
 focus (simp[Tryz.f55]<;>exact rfl)
 focus
  refine wB T (g:=?_)
  obtain⟨v5,h1,hr⟩:=bs hr
  apply TO.cal (wn T) rfl Yw (tS h1) rfl rfl rfl
  repeat exact sd T
  refine wa_ T (g:=?_)
  obtain⟨v11,h6,hr⟩:=bs hr
  refine TX.loopE (step:=hU v1 v2 v3) (x:=(1,v5)) h6 (fun (v6,v7)=>⟨.Z::.v (.int .i64 v3)::.fptr true [.v (.int .i64 v1),.list 1 (v2.map e_i)] 0::.Z::.Z::.v (.int .i64 v6)::.v (.int .i64 v7)::.Z::.Z::.Z::.Z::.Z::.Z::.Z::.Z::.Z::.Z::.Z::.Z::[],[]⟩) (fun v9=>(.exit 0,⟨.Z::.Z::.Z::.Z::.Z::.v (.int .i64 v9)::.Z::.Z::.Z::.Z::.Z::.Z::.Z::.Z::.Z::.Z::.Z::.Z::.Z::[],[]⟩)) ?_ ?_ ?_ ?_
  ·rintro⟨v6,v7⟩ v0 hr
   dsimp only[hU] at hr
   try dsimp only
   refine wa_ T (g:=?_)
   rcases ifs hr with⟨h4,hr⟩|⟨h4,hr⟩
   ·have T:=an h4 T
    refine wA T (g:=?_)
    obtain⟨v10,h5,hr⟩:=bs hr
    apply TO.cal (wn T) rfl Yw (tS h5) rfl rfl rfl
    repeat exact sd T
    refine wa_ T (g:=?_)
    cases hr
    refine⟨rfl,?_⟩
    exact wk_ T [] rfl .nil
   ·have T:=an h4 T
    refine wa_ T (g:=?_)
    cases hr
    refine⟨rfl,?_⟩
    exact wk_ T [] rfl .nil
  ·intro e h;cases h
  ·try dsimp only
   refine wa_ T (g:=?_)
   cases hr
   refine⟨.inr rfl,_,(ry T),?_⟩
   exact wr [] rfl .nil
  ·try dsimp only
   exact wr [] rfl .nil
 rfl
def y71:=an @ag26 <| an @cs26 <| @ok26
theorem vZ{v1:Int}{v2:(List Int)}{v3:Bool}(hr:hZ v1 v2=some (v3)):Spec (lim Tryz.prog) 15 [.agg [.v (.int .i64 v1),.list 1 (v2.map e_i)]] ⟨[.v (.bool v3)],[]⟩:=by
 unfold hZ at hr
 have T:=an y71 <| @e_i.eq_1
 apply Spec.fn Tryz.func15 rfl
 focus (simp[Tryz.f15]<;>exact rfl)
 focus
  refine wB T (g:=?_)
  obtain⟨v4,h1,hr⟩:=bs hr
  apply TD.cal (wn T) rfl aB3 (zX h1) rfl rfl rfl
  repeat exact sd T
  refine wA T (g:=?_)
  obtain⟨v5,h2,hr⟩:=bs hr
  apply TD.cal (wn T) rfl Lq (lY h2) rfl rfl rfl
  repeat exact sd T
  refine wa_ T (g:=?_)
  cases hr
  refine⟨.inr rfl,_,(ry T),?_⟩
  exact wr [] rfl .nil
 rfl
def y72:=an @ag26 <| an @ag3 <| an @cs26 <| an @cs3 <| an @ok26 <| an @ok3 <| an @so24 <| @bD
theorem Bm{v1:Int}{v2:(List Int)}{v3:Int}{v4:(List Int)}(hr:jF v1 v2 v3=some (v4)):Spec (lim Tryz.prog) 48 [.agg [.v (.int .i64 v1),.list 1 (v2.map e_i)],.v (.int .i64 v3)] ⟨[.lsl 0 0 v4.length],[.rows 1 (v4.map e_i)]⟩:=by
 unfold jF at hr
 have T:=an y72 <| @e_i.eq_1
 apply Spec.fn Tryz.func48 rfl
 focus (simp[Tryz.f48]<;>exact rfl)
 focus
  refine wB T (g:=?_)
  obtain⟨v5,h1,hr⟩:=bs hr
  apply TD.cal (wn T) rfl Lq (lY h1) rfl rfl rfl
  repeat exact sd T
  refine wa_ T (g:=?_)
  obtain⟨v6,h2,hr⟩:=bs hr
  apply TD.cal (wn T) rfl Zd (tV h2) rfl rfl rfl
  repeat exact sd T
  refine wa_ T (g:=?_)
  obtain⟨v12,h7,hr⟩:=bs hr
  refine TX.loopE (step:=kU) (x:=(v6,0)) h7 (fun (v7,v8)=>⟨.Z::.Z::.Z::.Z::.Z::.lsl 0 0 v7.length::.v (.int .i64 v8)::.Z::.Z::.Z::.Z::.Z::.Z::.Z::.Z::.Z::.Z::.Z::.Z::.Z::.Z::.Z::.Z::.Z::.Z::.Z::.Z::.Z::[],[.rows 1 (v7.map e_i)]⟩) (fun v10=>(.exit 0,⟨.Z::.Z::.Z::.Z::.Z::.lsl 0 0 v10.length::.Z::.Z::.Z::.Z::.Z::.Z::.Z::.Z::.Z::.Z::.Z::.Z::.Z::.Z::.Z::.Z::.Z::.Z::.Z::.Z::.Z::.Z::[],[.rows 1 (v10.map e_i)]⟩)) ?_ ?_ ?_ ?_
  ·rintro⟨v7,v8⟩ v0 hr
   dsimp only[kU] at hr
   try dsimp only
   refine wc_ T (g:=?_)
   rcases ifs hr with⟨h5,hr⟩|⟨h5,hr⟩
   ·have T:=an h5 T
    refine wa_ T (g:=?_)
    obtain⟨v11,h6,hr⟩:=bs hr
    have h6m:=bJ (f:=e_i) h6
    have h6l:=bQ h6
    try simp only[List.length_set] at h6l
    have h6a:=bW h6
    have T:=an h6m T
    have T:=an h6l T
    have T:=an h6a T
    refine wA T (g:=?_)
    apply TO.sr e_i v7 v11 (IntKind.i64.wrap (1-(IntKind.i64.wrap (2*v11)))) h6a (wn T) rfl rfl rfl rfl rfl ok3 (by rw[cs3];rfl) rfl rfl rfl rfl
    repeat exact sd T
    refine wa_ T (g:=?_)
    cases hr
    refine⟨rfl,?_⟩
    exact wk_ T [some 0] rfl (.rows .nil rfl rfl)
   ·have T:=an h5 T
    refine wa_ T (g:=?_)
    cases hr
    refine⟨rfl,?_⟩
    exact wk_ T [some 0] rfl (.rows .nil rfl rfl)
  ·intro e h;cases h
  ·try dsimp only
   refine wa_ T (g:=?_)
   cases hr
   refine⟨.inr rfl,_,(ry T),?_⟩
   exact wr [some 0] rfl (.rows .nil rfl rfl)
  ·try dsimp only
   exact wr [some 0] rfl (.rows .nil rfl rfl)
 rfl
theorem Hu{v1:Int}{v2:Int}{v3:Int}(hr:jC v1 v2=some (v3)):Spec (lim Tryz.prog) 49 [.v (.int .i64 v1),.v (.int .i64 v2)] ⟨[.v (.int .i64 v3)],[]⟩:=by
 unfold jC at hr
 have T:=trivial
 apply Spec.fn Tryz.func49 rfl
 focus (simp[Tryz.f49]<;>exact rfl)
 focus
  refine wa_ T (g:=?_)
  by_cases h1:v2=0
  ·rw[if_pos h1] at hr
   cases hr
  ·rw[if_neg h1] at hr
   have T:=an h1 T
   refine wa_ T (g:=?_)
   rcases ifs hr with⟨h2,hr⟩|⟨h2,hr⟩
   ·have T:=an h2 T
    refine wa_ T (g:=?_)
    cases hr
    refine⟨.inr rfl,_,(ry T),?_⟩
    exact wk_ T [] rfl .nil
   ·have T:=an h2 T
    refine wa_ T (g:=?_)
    cases hr
    refine⟨.inr rfl,_,(ry T),?_⟩
    exact wk_ T [] rfl .nil
 rfl
def y73:=an @ag3 <| an @by3 <| an @cs3 <| an @ni24 <| an @ok3 <| an @so24 <| an @zc3 <| @bD
theorem tT{v1:(List Int)}{v2:Int}{v3:Int}{v4:(List Int)}(hr:nT v1 v2 v3=some (v4)):Spec (lim Tryz.prog) 106 [.list 1 (v1.map e_i),.v (.int .i64 v2),.v (.int .i64 v3)] ⟨[.lsl 0 0 v4.length],[.rows 1 (v4.map e_i)]⟩:=by
 unfold nT at hr
 have T:=an y73 <| @e_i.eq_1
 apply Spec.fn Tryz.func106 rfl
 focus (simp[Tryz.f106]<;>exact rfl)
 focus
  refine wa_ T (g:=?_)
  apply TX.vt (α:=Int) e_i 7 1 rfl
  repeat exact sd T
  with_reducible apply TX.here
  refine wa_ T (g:=?_)
  obtain⟨v30,h23,hr⟩:=bs hr
  refine TX.loopE (step:=jX v1 v2 v3) (x:=(([]:List Int),0)) h23 (fun (v5,v6)=>⟨.list 1 (v1.map e_i)::.v (.int .i64 v2)::.v (.int .i64 v3)::.Z::.Z::.Z::.Z::.lsl 0 0 v5.length::.v (.int .i64 v6)::.Z::.Z::.Z::.Z::.Z::.Z::.Z::.Z::.Z::.Z::.Z::.Z::.Z::.Z::.Z::.Z::.Z::.Z::.Z::.Z::.Z::.Z::.Z::.Z::.Z::.Z::.Z::.Z::.Z::.Z::.Z::.Z::.Z::.Z::.Z::.Z::.Z::.Z::.Z::.Z::.Z::.Z::.Z::.Z::[],[.rows 1 (v5.map e_i)]⟩) (fun v18=>(.exit 0,⟨.Z::.Z::.Z::.Z::.Z::.Z::.Z::.lsl 0 0 v18.length::.Z::.Z::.Z::.Z::.Z::.Z::.Z::.Z::.Z::.Z::.Z::.Z::.Z::.Z::.Z::.Z::.Z::.Z::.Z::.Z::.Z::.Z::.Z::.Z::.Z::.Z::.Z::.Z::.Z::.Z::.Z::.Z::.Z::.Z::.Z::.Z::.Z::.Z::.Z::.Z::.Z::.Z::.Z::.Z::.Z::[],[.rows 1 (v18.map e_i)]⟩)) ?_ ?_ ?_ ?_
  ·rintro⟨v5,v6⟩ v0 hr
   dsimp only[jX] at hr
   try dsimp only
   refine wc_ T (g:=?_)
   rcases ifs hr with⟨h12,hr⟩|⟨h12,hr⟩
   ·have T:=an h12 T
    refine wa_ T (g:=?_)
    by_cases h13:v3=0
    ·rw[if_pos h13] at hr
     cases hr
    ·rw[if_neg h13] at hr
     have T:=an h13 T
     refine wa_ T (g:=?_)
     obtain⟨v19,h14,hr⟩:=bs hr
     apply TD.cal (wn T) rfl Lu (lC h14) rfl rfl rfl
     repeat exact sd T
     refine wa_ T (g:=?_)
     obtain⟨v28,h21,hr⟩:=bs hr
     refine TX.loopE (step:=iN v1 v3 v19) (x:=(0,((1:Int).tmod v3),0)) h21 (fun (v20,v21,v22)=>⟨.list 1 (v1.map e_i)::.v (.int .i64 v2)::.v (.int .i64 v3)::.Z::.Z::.Z::.Z::.lsl 0 0 v5.length::.v (.int .i64 v6)::.v (.int .i64 v20)::.v (.int .i64 v21)::.v (.int .i64 v19)::.v (.int .i64 v22)::.Z::.Z::.Z::.Z::.Z::.Z::.Z::.Z::.Z::.Z::.Z::.Z::.Z::.Z::.Z::.Z::.Z::.Z::.Z::.Z::.Z::.Z::.Z::.Z::.Z::.Z::.Z::.Z::.Z::.Z::.Z::.Z::.Z::.Z::.Z::.Z::.Z::.Z::.Z::.Z::[],[.rows 1 (v5.map e_i)]⟩) (fun v25=>(.exit 2,⟨.list 1 (v1.map e_i)::.v (.int .i64 v2)::.v (.int .i64 v3)::.Z::.Z::.Z::.Z::.lsl 0 0 v5.length::.v (.int .i64 v6)::.v (.int .i64 v25)::.Z::.Z::.Z::.Z::.Z::.Z::.Z::.Z::.Z::.Z::.Z::.Z::.Z::.Z::.Z::.Z::.Z::.Z::.Z::.Z::.Z::.Z::.Z::.Z::.Z::.Z::.Z::.Z::.Z::.Z::.Z::.Z::.Z::.Z::.Z::.Z::.Z::.Z::.Z::.Z::.Z::.Z::.Z::[],[.rows 1 (v5.map e_i)]⟩)) ?_ ?_ ?_ ?_
     ·rintro⟨v20,v21,v22⟩ v0 hr
      dsimp only[iN] at hr
      try dsimp only
      refine wc_ T (g:=?_)
      rcases ifs hr with⟨h18,hr⟩|⟨h18,hr⟩
      ·have T:=an h18 T
       refine wa_ T (g:=?_)
       obtain⟨v26,h19,hr⟩:=bs hr
       have T:=an (gx e_i h19) T
       refine wA T (g:=?_)
       obtain⟨v27,h20,hr⟩:=bs hr
       apply TO.cal (wn T) rfl aCh (Hu h20) rfl rfl rfl
       repeat exact sd T
       refine wa_ T (g:=?_)
       cases hr
       refine⟨rfl,?_⟩
       exact wk_ T [some 0] rfl (.rows .nil rfl rfl)
      ·have T:=an h18 T
       refine wa_ T (g:=?_)
       cases hr
       refine⟨rfl,?_⟩
       exact wk_ T [some 0] rfl (.rows .nil rfl rfl)
     ·intro e h;cases h
     ·try dsimp only
      refine wa_ T (g:=?_)
      apply TO.bm e_i ([v28]:List Int) (wn T) rfl (by simp only[zz,y73,e_i,Nat.reduceAdd,Nat.reduceMul,Nat.reduceLeDiff,Nat.reduceEqDiff,tslice,tparts,h12,h13];exact rfl) rfl
      repeat exact sd T
      refine wa_ T (g:=?_)
      obtain⟨v29,h22,hr⟩:=bs hr
      apply TO.ap (f:=e_i) (xs:=v5) (ys:=([v28]:List Int)) (wn T) rfl rfl (by first|rfl|simp only[List.length_set]) rfl rfl so24 ni24 zc3 rfl (by rw[by3];exact h22) (fun _=>⟨rfl,rfl,rfl⟩)
      repeat exact sd T
      refine wa_ T (g:=?_)
      cases hr
      refine⟨rfl,?_⟩
      exact wk_ T [some 0] rfl (.rows .nil rfl rfl)
     ·try dsimp only
      exact wk_ T [some 0] rfl (.rows .nil rfl rfl)
   ·have T:=an h12 T
    refine wa_ T (g:=?_)
    cases hr
    refine⟨rfl,?_⟩
    exact wk_ T [some 0] rfl (.rows .nil rfl rfl)
  ·intro e h;cases h
  ·try dsimp only
   refine wa_ T (g:=?_)
   cases hr
   refine⟨.inr rfl,_,(ry T),?_⟩
   exact wr [some 0] rfl (.rows .nil rfl rfl)
  ·try dsimp only
   exact wr [some 0] rfl (.rows .nil rfl rfl)
 rfl
def y74:=an @ag3 <| an @qE <| @zB
theorem jP{v1:(List Int)}{v2:Int}{v3:Int}{v4:Int}{v5:(List Int)}(hr:bG v1 v2 v3 v4=some (v5)):Spec (lim Tryz.prog) 70 [.list 1 (v1.map e_i),.agg [.v (.int .i64 v2),.v (.int .i64 v3),.v (.int .i64 v4)]] ⟨[.lsl 0 0 v5.length],[.rows 1 (v5.map e_i)]⟩:=by
 unfold bG at hr
 have T:=an y74 <| @e_i.eq_1
 apply Spec.fn Tryz.func70 rfl
 focus (simp[Tryz.f70]<;>exact rfl)
 focus
  refine wB T (g:=?_)
  obtain⟨v6,h1,hr⟩:=bs hr
  apply TO.cal (wn T) rfl Vi (tT h1) rfl rfl rfl
  repeat exact sd T
  refine wa_ T (g:=?_)
  cases hr
  refine⟨.inr rfl,_,(ry T),?_⟩
  exact wr [some 0] rfl (.rows .nil rfl rfl)
 rfl
def y75:=an @ag84 <| an @ar88 <| an @by88 <| an @cs3 <| an @cs84 <| an @cs88 <| an @ni86 <| an @ok3 <| an @ok84 <| an @so31 <| an @so86 <| an @st88 <| an @un3 <| an @un44 <| an @zc88 <| @bD
theorem rP{v1:(List (Nat×Nat))}{v2:(List (Int×Int))}(hr:bZ v1=some (v2)):Spec (lim Tryz.prog) 45 [.list 1 (v1.map e_c)] ⟨[.lsl 0 0 v2.length],[.rows 2 (v2.map e_ii)]⟩:=by
 unfold bZ at hr
 have T:=an y75 <| an @e_c.eq_1 <| @e_ii.eq_1
 apply Spec.fn Tryz.func45 rfl
 focus (simp[Tryz.f45]<;>exact rfl)
 focus
  refine wa_ T (g:=?_)
  apply TX.vt (α:=(Int×Int)) e_ii 3 2 rfl
  repeat exact sd T
  with_reducible apply TX.here
  refine wa_ T (g:=?_)
  obtain⟨v16,h11,hr⟩:=bs hr
  refine TX.loopE (step:=kN v1) (x:=(([]:List (Int×Int)),0)) h11 (fun (v3,v4)=>⟨.list 1 (v1.map e_c)::.Z::.Z::.lsl 0 0 v3.length::.v (.int .i64 v4)::.Z::.Z::.Z::.Z::.Z::.Z::.Z::.Z::.Z::.Z::.Z::.Z::.Z::.Z::.Z::.Z::.Z::.Z::.Z::.Z::.Z::.Z::.Z::[],[.rows 2 (v3.map e_ii)]⟩) (fun v10=>(.exit 0,⟨.Z::.Z::.Z::.lsl 0 0 v10.length::.Z::.Z::.Z::.Z::.Z::.Z::.Z::.Z::.Z::.Z::.Z::.Z::.Z::.Z::.Z::.Z::.Z::.Z::.Z::.Z::.Z::.Z::.Z::.Z::[],[.rows 2 (v10.map e_ii)]⟩)) ?_ ?_ ?_ ?_
  ·rintro⟨v3,v4⟩ v0 hr
   dsimp only[kN] at hr
   try dsimp only
   refine wc_ T (g:=?_)
   rcases ifs hr with⟨h6,hr⟩|⟨h6,hr⟩
   ·have T:=an h6 T
    refine wa_ T (g:=?_)
    obtain⟨⟨v11,v12⟩,h7,hr⟩:=bs hr
    try dsimp only at hr
    have h7m:=bJ (f:=e_c) h7
    have h7l:=bQ h7
    try simp only[List.length_set] at h7l
    have h7a:=bW h7
    have T:=an h7m T
    have T:=an h7l T
    have T:=an h7a T
    refine wA T (g:=?_)
    apply TD.pop1 (wn T) (rV rfl)
    repeat exact sd T
    refine wa_ T (g:=?_)
    obtain⟨v13,h8,hr⟩:=bs hr
    apply TD.pop1 (wn T) (lS un44 un3 rfl h8)
    repeat exact sd T
    refine wA T (g:=?_)
    apply TD.pop1 (wn T) (rY rfl)
    repeat exact sd T
    refine wa_ T (g:=?_)
    obtain⟨v14,h9,hr⟩:=bs hr
    apply TD.pop1 (wn T) (lS un44 un3 rfl h9)
    repeat exact sd T
    refine wa_ T (g:=?_)
    apply TD.bm e_ii ([(v13,v14)]:List (Int×Int)) (wn T) rfl (by simp only[zz,y75,e_c,e_ii,Nat.reduceAdd,Nat.reduceMul,Nat.reduceLeDiff,Nat.reduceEqDiff,tslice,tparts,h6,h7m,h7l,h7a];exact rfl) rfl
    repeat exact sd T
    refine wa_ T (g:=?_)
    obtain⟨v15,h10,hr⟩:=bs hr
    apply TD.ap (f:=e_ii) (xs:=v3) (ys:=([(v13,v14)]:List (Int×Int))) (wn T) rfl rfl (by first|rfl|simp only[List.length_set]) rfl rfl so86 ni86 zc88 rfl (by rw[by88];exact h10) (fun _=>⟨rfl,rfl,rfl⟩) rfl
    repeat exact sd T
    refine wa_ T (g:=?_)
    cases hr
    refine⟨rfl,?_⟩
    exact wk_ T [some 0] rfl (.rows .nil rfl rfl)
   ·have T:=an h6 T
    refine wa_ T (g:=?_)
    cases hr
    refine⟨rfl,?_⟩
    exact wk_ T [some 0] rfl (.rows .nil rfl rfl)
  ·intro e h;cases h
  ·try dsimp only
   refine wa_ T (g:=?_)
   cases hr
   refine⟨.inr rfl,_,(ry T),?_⟩
   exact wr [some 0] rfl (.rows .nil rfl rfl)
  ·try dsimp only
   exact wr [some 0] rfl (.rows .nil rfl rfl)
 rfl
def y76:=an @ag3 <| an @ar88 <| an @by3 <| an @cs3 <| an @cs88 <| an @ni24 <| an @ok3 <| an @ok88 <| an @so24 <| an @so86 <| an @so88 <| an @zc3 <| @bD
theorem tN{v1:(List (Int×Int))}{v2:Int}{v3:(List Int)}(hr:fR v1 v2=some (v3)):Spec (lim Tryz.prog) 71 [.list 2 (v1.map e_ii),.v (.int .i64 v2)] ⟨[.lsl 0 0 v3.length],[.rows 1 (v3.map e_i)]⟩:=by
 unfold fR at hr
 have T:=an y76 <| an @e_i.eq_1 <| @e_ii.eq_1
 apply Spec.fn Tryz.func71 rfl
 focus (simp[Tryz.f71]<;>exact rfl)
 focus
  refine wa_ T (g:=?_)
  apply TX.vt (α:=Int) e_i 5 1 rfl
  repeat exact sd T
  with_reducible apply TX.here
  refine wa_ T (g:=?_)
  obtain⟨v15,h9,hr⟩:=bs hr
  refine TX.loopE (step:=jY v1 v2) (x:=(([]:List Int),0)) h9 (fun (v4,v5)=>⟨.list 2 (v1.map e_ii)::.v (.int .i64 v2)::.Z::.Z::.Z::.lsl 0 0 v4.length::.v (.int .i64 v5)::.Z::.Z::.Z::.Z::.Z::.Z::.Z::.Z::.Z::.Z::.Z::.Z::.Z::.Z::.Z::.Z::[],[.rows 1 (v4.map e_i)]⟩) (fun v10=>(.exit 0,⟨.Z::.Z::.Z::.Z::.Z::.lsl 0 0 v10.length::.Z::.Z::.Z::.Z::.Z::.Z::.Z::.Z::.Z::.Z::.Z::.Z::.Z::.Z::.Z::.Z::.Z::[],[.rows 1 (v10.map e_i)]⟩)) ?_ ?_ ?_ ?_
  ·rintro⟨v4,v5⟩ v0 hr
   dsimp only[jY] at hr
   try dsimp only
   refine wc_ T (g:=?_)
   rcases ifs hr with⟨h5,hr⟩|⟨h5,hr⟩
   ·have T:=an h5 T
    refine wa_ T (g:=?_)
    obtain⟨⟨v11,v12⟩,h6,hr⟩:=bs hr
    try dsimp only at hr
    have h6m:=bJ (f:=e_ii) h6
    have h6l:=bQ h6
    try simp only[List.length_set] at h6l
    have h6a:=bW h6
    have T:=an h6m T
    have T:=an h6l T
    have T:=an h6a T
    refine wa_ T (g:=?_)
    obtain⟨v13,h7,hr⟩:=bs hr
    have h7l:=bQ h7
    refine wa_ T (g:=?_)
    have T:=an h7l T
    apply TO.pop1 (wn T) (iaP (xs:=([v11,v12]:List Int)) h7 rfl rfl so88 ar88 rfl ok3 cs3)
    repeat exact sd T
    refine wa_ T (g:=?_)
    apply TO.ld (wn T) rfl (aBS (p:=.v (.int .i64 v13)) (fo:=0) (f:=e_i) (xs:=([v11,v12]:List Int)) h7 rfl (fun _=>rfl) rfl (by simp only[aS,zz,y76,e_i,e_ii,Nat.reduceAdd,Nat.reduceMul,Nat.reduceLeDiff,Nat.reduceEqDiff,h5,h6m,h6l,h6a,h7l]<;>exact rfl))
    repeat exact sd T
    refine wa_ T (g:=?_)
    apply TO.bm e_i ([v13]:List Int) (wn T) rfl (by simp only[zz,y76,e_i,e_ii,Nat.reduceAdd,Nat.reduceMul,Nat.reduceLeDiff,Nat.reduceEqDiff,tslice,tparts,h5,h6m,h6l,h6a,h7l];exact rfl) rfl
    repeat exact sd T
    refine wa_ T (g:=?_)
    obtain⟨v14,h8,hr⟩:=bs hr
    apply TO.ap (f:=e_i) (xs:=v4) (ys:=([v13]:List Int)) (wn T) rfl rfl (by first|rfl|simp only[List.length_set]) rfl rfl so24 ni24 zc3 rfl (by rw[by3];exact h8) (fun _=>⟨rfl,rfl,rfl⟩)
    repeat exact sd T
    refine wa_ T (g:=?_)
    cases hr
    refine⟨rfl,?_⟩
    exact wk_ T [some 0] rfl (.rows .nil rfl rfl)
   ·have T:=an h5 T
    refine wa_ T (g:=?_)
    cases hr
    refine⟨rfl,?_⟩
    exact wk_ T [some 0] rfl (.rows .nil rfl rfl)
  ·intro e h;cases h
  ·try dsimp only
   refine wa_ T (g:=?_)
   cases hr
   refine⟨.inr rfl,_,(ry T),?_⟩
   exact wr [some 0] rfl (.rows .nil rfl rfl)
  ·try dsimp only
   exact wr [some 0] rfl (.rows .nil rfl rfl)
 rfl
theorem jM{v1:Int}{v2:Int}{v3:Int}(hr:gA v1 v2=some (v3)):Spec (lim Tryz.prog) 72 [.v (.int .i64 v1),.v (.int .i64 v2)] ⟨[.v (.int .i64 v3)],[]⟩:=by
 unfold gA at hr
 have T:=trivial
 apply Spec.fn Tryz.func72 rfl
 focus (simp[Tryz.f72]<;>exact rfl)
 focus
  refine wa_ T (g:=?_)
  by_cases h1:v2=0
  ·rw[if_pos h1] at hr
   cases hr
  ·rw[if_neg h1] at hr
   have T:=an h1 T
   refine wa_ T (g:=?_)
   obtain⟨v4,h2,hr⟩:=bs hr
   apply TO.cal (wn T) rfl Lu (lC h2) rfl rfl rfl
   repeat exact sd T
   refine wa_ T (g:=?_)
   cases hr
   refine⟨.inr rfl,_,(ry T),?_⟩
   exact wr [] rfl .nil
 rfl
def y77:=an @ag3 <| an @cs3 <| an @qE <| an @zB <| an @rG <| an @ok3 <| an @so24 <| @bD
theorem tQ{v1:(List Int)}{v2:Int}{v3:Int}{v4:Int}{v5:(List Int)}(hr:iP v1 v2 v3 v4=some (v5)):Spec (lim Tryz.prog) 73 [.list 1 (v1.map e_i),.agg [.v (.int .i64 v2),.v (.int .i64 v3),.v (.int .i64 v4)]] ⟨[.lsl 0 0 v5.length],[.rows 1 (v5.map e_i)]⟩:=by
 unfold iP at hr
 have T:=an y77 <| @e_i.eq_1
 apply Spec.fn Tryz.func73 rfl
 focus (simp[Tryz.f73]<;>exact rfl)
 focus
  refine wB T (g:=?_)
  obtain⟨v6,h1,hr⟩:=bs hr
  apply TD.cal (wn T) rfl Lg (jM h1) rfl rfl rfl
  repeat exact sd T
  refine wA T (g:=?_)
  obtain⟨v7,h2,hr⟩:=bs hr
  apply TD.cal (wn T) rfl Vi (tT h2) rfl rfl rfl
  repeat exact sd T
  refine wa_ T (g:=?_)
  obtain⟨v15,h11,hr⟩:=bs hr
  refine TX.loopE (step:=kE v2 v4) (x:=(v7,0)) h11 (fun (v8,v9)=>⟨.Z::.Z::.Z::.fptr true [.v (.int .i64 v2),.v (.int .i64 v3),.v (.int .i64 v4)] 0::.Z::.lsl 0 0 v8.length::.v (.int .i64 v9)::.Z::.Z::.Z::.Z::.Z::.Z::.Z::.Z::.Z::.Z::.Z::.Z::.Z::.Z::.Z::.Z::.Z::.Z::.Z::.Z::.Z::.Z::.Z::.Z::.Z::.Z::.Z::.Z::.Z::.Z::.Z::.Z::[],[.rows 1 (v8.map e_i)]⟩) (fun v12=>(.exit 0,⟨.Z::.Z::.Z::.Z::.Z::.lsl 0 0 v12.length::.Z::.Z::.Z::.Z::.Z::.Z::.Z::.Z::.Z::.Z::.Z::.Z::.Z::.Z::.Z::.Z::.Z::.Z::.Z::.Z::.Z::.Z::.Z::.Z::.Z::.Z::.Z::.Z::.Z::.Z::.Z::.Z::.Z::[],[.rows 1 (v12.map e_i)]⟩)) ?_ ?_ ?_ ?_
  ·rintro⟨v8,v9⟩ v0 hr
   dsimp only[kE] at hr
   try dsimp only
   refine wc_ T (g:=?_)
   rcases ifs hr with⟨h7,hr⟩|⟨h7,hr⟩
   ·have T:=an h7 T
    refine wa_ T (g:=?_)
    obtain⟨v13,h8,hr⟩:=bs hr
    have h8m:=bJ (f:=e_i) h8
    have h8l:=bQ h8
    try simp only[List.length_set] at h8l
    have h8a:=bW h8
    have T:=an h8m T
    have T:=an h8l T
    have T:=an h8a T
    refine wA T (g:=?_)
    obtain⟨v14,h9,hr⟩:=bs hr
    apply TD.cal (wn T) rfl Lg (jM h9) rfl rfl rfl
    repeat exact sd T
    refine wA T (g:=?_)
    by_cases h10:v2=0
    ·rw[if_pos h10] at hr
     cases hr
    ·rw[if_neg h10] at hr
     have T:=an h10 T
     refine wa_ T (g:=?_)
     apply TD.sr e_i v8 v13 ((IntKind.i64.wrap (v13*v14)).tmod v2) h8a (wn T) rfl rfl rfl rfl rfl ok3 (by rw[cs3];rfl) rfl rfl rfl rfl rfl
     repeat exact sd T
     refine wa_ T (g:=?_)
     cases hr
     refine⟨rfl,?_⟩
     exact wk_ T [some 0] rfl (.rows .nil rfl rfl)
   ·have T:=an h7 T
    refine wa_ T (g:=?_)
    cases hr
    refine⟨rfl,?_⟩
    exact wk_ T [some 0] rfl (.rows .nil rfl rfl)
  ·intro e h;cases h
  ·try dsimp only
   refine wa_ T (g:=?_)
   cases hr
   refine⟨.inr rfl,_,(ry T),?_⟩
   exact wr [some 0] rfl (.rows .nil rfl rfl)
  ·try dsimp only
   exact wr [some 0] rfl (.rows .nil rfl rfl)
 rfl
theorem vN{v1:Int}{v2:Int}(hr:nQ v1=some (v2)):Spec (lim Tryz.prog) 118 [.v (.int .i64 v1)] ⟨[.v (.int .i64 v2)],[]⟩:=by
 unfold nQ at hr
 have T:=trivial
 apply Spec.fn Tryz.func118 rfl
 focus (simp[Tryz.f118]<;>exact rfl)
 focus
  refine wa_ T (g:=?_)
  apply TO.pop1 (wn T) (Ty rfl)
  repeat exact sd T
  refine wa_ T (g:=?_)
  apply TO.pop1 (wn T) (aA4 rfl rfl)
  repeat exact sd T
  refine wa_ T (g:=?_)
  cases hr
  refine⟨.inr rfl,_,(ry T),?_⟩
  exact wr [] rfl .nil
 rfl
end Go.Rex
namespace Go.Rex
open Go.Proofs
open Go Go.Rex Go.RowKit
set_option maxRecDepth 100000
set_option maxHeartbeats 1000000
def y78:=an @ag3 <| an @ar88 <| an @by84 <| an @cs3 <| an @cs84 <| an @cs88 <| an @ni31 <| an @ok3 <| an @ok88 <| an @so31 <| an @so86 <| an @so88 <| an @un3 <| an @un44 <| an @zc84 <| @bD
theorem yJ{v1:(List (Int×Int))}{v2:(List (Nat×Nat))}{v3:Bool}(hr:nV v1=some (v2,v3)):Spec (lim Tryz.prog) 93 [.list 2 (v1.map e_ii)] ⟨[.tuple [.lsl 0 0 v2.length,.v (.bool v3)]],[.rows 1 (v2.map e_c)]⟩:=by
 unfold nV at hr
 have T:=an y78 <| an @e_c.eq_1 <| @e_ii.eq_1
 apply Spec.fn Tryz.func93 rfl
 focus (simp[Tryz.f93]<;>exact rfl)
 focus
  refine wa_ T (g:=?_)
  apply TX.vt (α:=(Nat×Nat)) e_c 4 1 rfl
  repeat exact sd T
  with_reducible apply TX.here
  refine wa_ T (g:=?_)
  obtain⟨v17,h15,hr⟩:=bs hr
  refine TX.loopE (step:=cM v1) (x:=(([]:List (Nat×Nat)),0)) h15 (fun (v4,v5)=>⟨.list 2 (v1.map e_ii)::.Z::.Z::.Z::.lsl 0 0 v4.length::.v (.int .i64 v5)::.Z::.Z::.Z::.Z::.Z::.Z::.Z::.Z::.Z::.Z::.Z::.Z::.Z::.Z::.Z::.Z::.Z::.Z::.Z::.Z::.Z::.Z::.Z::.Z::.Z::.Z::.Z::.Z::.Z::.Z::.Z::.Z::.Z::.Z::.Z::.Z::.Z::.Z::.Z::[],[.rows 1 (v4.map e_c)]⟩) (fun e=>match e with|(.inl _)=>(.ret,⟨.Z::.Z::.v (.slice none 0 0)::.v (.bool false)::.Z::.Z::.Z::.Z::.Z::.Z::.Z::.Z::.Z::.Z::.Z::.Z::.Z::.Z::.Z::.Z::.Z::.Z::.Z::.Z::.Z::.Z::.Z::.Z::.Z::.Z::.Z::.Z::.Z::.Z::.Z::.Z::.Z::.Z::.Z::.Z::.Z::.Z::.Z::.Z::.Z::[],[]⟩)|(.inr v11)=>(.exit 0,⟨.Z::.Z::.Z::.Z::.lsl 0 0 v11.length::.Z::.Z::.Z::.Z::.Z::.Z::.Z::.Z::.Z::.Z::.Z::.Z::.Z::.Z::.Z::.Z::.Z::.Z::.Z::.Z::.Z::.Z::.Z::.Z::.Z::.Z::.Z::.Z::.Z::.Z::.Z::.Z::.Z::.Z::.Z::.Z::.Z::.Z::.Z::.Z::[],[.rows 1 (v11.map e_c)]⟩)) ?_ ?_ ?_ ?_
  ·rintro⟨v4,v5⟩ v0 hr
   dsimp only[cM] at hr
   try dsimp only
   refine wc_ T (g:=?_)
   rcases ifs hr with⟨h8,hr⟩|⟨h8,hr⟩
   ·have T:=an h8 T
    refine wa_ T (g:=?_)
    obtain⟨⟨v12,v13⟩,h9,hr⟩:=bs hr
    try dsimp only at hr
    have h9m:=bJ (f:=e_ii) h9
    have h9l:=bQ h9
    try simp only[List.length_set] at h9l
    have h9a:=bW h9
    repeat (first|(with_reducible first|refine mv ?_|refine m12 rfl ?_|refine TO.nil ?_)|((with_reducible first|apply TO.ia|apply TO.ia|apply TO.ld);(repeat (focus (show _=_;first|exact k1 rfl|exact k2 rfl|(simp only[zz,y78,e_c,e_ii,Nat.reduceAdd,Nat.reduceMul,Nat.reduceLeDiff,Nat.reduceEqDiff,aB,Nat.zero_add,z5,Int.reduceToNat,Int.reduceLE,Int.reduceLT,Int.cast_ofNat_Int,tload,aV,aS,List.getElem?_map,h8,h9m,h9l,h9a]<;>exact rfl)|exact rfl)));(with_reducible apply TO.here))|((with_reducible apply TX.region);(focus (simp only[zl]<;>exact rfl));(focus rfl);(try dsimp only))|fail)
    obtain⟨v14,h10,hr⟩:=bs hr
    have T:=an h9m T
    have T:=an h9l T
    have T:=an h9a T
    apply TO.cal (wn T) rfl Ug (vN h10) rfl rfl rfl
    repeat exact sd T
    refine wa_ T (g:=?_)
    rcases ifs hr with⟨h11,hr⟩|⟨h11,hr⟩
    ·have T:=an h11 T
     refine wa_ T (g:=?_)
     cases hr
     refine⟨rfl,?_⟩
     exact wk_ T [] rfl .nil
    ·repeat (first|(with_reducible first|refine mv ?_|refine m12 rfl ?_|refine TO.nil ?_)|((with_reducible first|apply TO.mv|apply TO.ia|apply TO.ia|apply TO.ld);(repeat (focus (show _=_;first|exact k1 rfl|exact k2 rfl|(simp only[zz,y78,e_c,e_ii,Nat.reduceAdd,Nat.reduceMul,Nat.reduceLeDiff,Nat.reduceEqDiff,aB,Nat.zero_add,z5,Int.reduceToNat,Int.reduceLE,Int.reduceLT,Int.cast_ofNat_Int,tload,aV,aS,List.getElem?_map,h8,h9m,h9l,h9a,h11]<;>exact rfl)|exact rfl)));(with_reducible apply TO.here))|((with_reducible apply TX.region);(focus (simp only[zl]<;>exact rfl));(focus rfl);(try dsimp only))|fail)
     obtain⟨v15,h12,hr⟩:=bs hr
     have T:=an h11 T
     apply TO.cal (wn T) rfl Ug (vN h12) rfl rfl rfl
     repeat exact sd T
     refine wa_ T (g:=?_)
     rcases ifs hr with⟨h13,hr⟩|⟨h13,hr⟩
     ·have T:=an h13 T
      refine wa_ T (g:=?_)
      cases hr
      refine⟨rfl,?_⟩
      exact wk_ T [] rfl .nil
     ·repeat (first|(with_reducible first|refine mv ?_|refine m12 rfl ?_|refine TD.nil ?_)|((with_reducible first|apply TD.mv|apply TD.ia|apply TD.ia|apply TD.ld );(repeat (focus (show _=_;first|exact k1 rfl|exact k2 rfl|(simp only[zz,y78,e_c,e_ii,Nat.reduceAdd,Nat.reduceMul,Nat.reduceLeDiff,Nat.reduceEqDiff,aB,Nat.zero_add,z5,Int.reduceToNat,Int.reduceLE,Int.reduceLT,Int.cast_ofNat_Int,tload,aV,aS,List.getElem?_map,h8,h9m,h9l,h9a,h11,h13]<;>exact rfl)|exact rfl)));(with_reducible refine TD.here ?_))|((with_reducible apply TX.drawn);(focus decide +kernel);(focus (simp only[zl]<;>exact rfl));(focus exact rfl);(try dsimp only))|((with_reducible apply TX.cond_true);(focus rfl);(focus (first|rfl|(simp only[z1,zn,h8,h9m,h9l,h9a,h11,h13];done))))|((with_reducible apply TX.cond_false);(focus rfl);(focus (first|rfl|(simp only[z1,zn,h8,h9m,h9l,h9a,h11,h13];done))))|fail)
      have T:=an h13 T
      apply TD.pop1 (wn T) (lR un3 un44 rfl)
      repeat exact sd T
      repeat (first|(with_reducible first|refine mv ?_|refine m12 rfl ?_|refine TD.nil ?_)|((with_reducible first|apply TD.mv|apply TD.ia|apply TD.ia|apply TD.ld );(repeat (focus (show _=_;first|exact k1 rfl|exact k2 rfl|(simp only[zz,y78,e_c,e_ii,Nat.reduceAdd,Nat.reduceMul,Nat.reduceLeDiff,Nat.reduceEqDiff,aB,Nat.zero_add,z5,Int.reduceToNat,Int.reduceLE,Int.reduceLT,Int.cast_ofNat_Int,tload,aV,aS,List.getElem?_map,h8,h9m,h9l,h9a,h11,h13]<;>exact rfl)|exact rfl)));(with_reducible refine TD.here ?_))|((with_reducible apply TX.drawn);(focus decide +kernel);(focus (simp only[zl]<;>exact rfl));(focus exact rfl);(try dsimp only))|fail)
      apply TD.pop1 (wn T) (lR un3 un44 rfl)
      repeat exact sd T
      refine wa_ T (g:=?_)
      apply TD.pop1 (wn T) (vC rfl rfl)
      repeat exact sd T
      refine wa_ T (g:=?_)
      apply TD.bm e_c ([((FloatKind.f32.nearest v12),(FloatKind.f32.nearest v13))]:List (Nat×Nat)) (wn T) rfl (by simp only[zz,y78,e_c,e_ii,Nat.reduceAdd,Nat.reduceMul,Nat.reduceLeDiff,Nat.reduceEqDiff,tslice,tparts,h8,h9m,h9l,h9a,h11,h13];exact rfl) rfl
      repeat exact sd T
      refine wa_ T (g:=?_)
      obtain⟨v16,h14,hr⟩:=bs hr
      apply TD.ap (f:=e_c) (xs:=v4) (ys:=([((FloatKind.f32.nearest v12),(FloatKind.f32.nearest v13))]:List (Nat×Nat))) (wn T) rfl rfl (by first|rfl|simp only[List.length_set]) rfl rfl so31 ni31 zc84 rfl (by rw[by84];exact h14) (fun _=>⟨rfl,rfl,rfl⟩) rfl
      repeat exact sd T
      refine wa_ T (g:=?_)
      cases hr
      refine⟨rfl,?_⟩
      exact wk_ T [some 0] rfl (.rows .nil rfl rfl)
   ·have T:=an h8 T
    refine wa_ T (g:=?_)
    cases hr
    refine⟨rfl,?_⟩
    exact wk_ T [some 0] rfl (.rows .nil rfl rfl)
  ·intro e h;rcases e with _|e<;>cases h
  ·try dsimp only
   rcases v17 with _|v18
   ·try dsimp only at hr
    try dsimp only
    refine wa_ T (g:=?_)
    cases hr
    refine⟨.inr rfl,_,(ry T),?_⟩
    exact wr [none] rfl (.virt .nil)
   ·try dsimp only at hr
    try dsimp only
    refine wa_ T (g:=?_)
    cases hr
    refine⟨.inr rfl,_,(ry T),?_⟩
    exact wr [some 0] rfl (.rows .nil rfl rfl)
  ·try dsimp only
   exact wr [some 0] rfl (.rows .nil rfl rfl)
 rfl
end Go.Rex
namespace Go.Rex
open Go.Proofs
open Go Go.Rex Go.RowKit
set_option maxRecDepth 100000
set_option maxHeartbeats 200000
theorem Ej{v1:(List (Int×Int))}{v2:(List (Nat×Nat))}{v3:Int}(hr:eY v1=some (v2,v3)):Spec (lim Tryz.prog) 51 [.list 2 (v1.map e_ii)] ⟨[.tuple [.lsl 0 0 v2.length,.v (.int .i64 v3)]],[.rows 1 (v2.map e_c)]⟩:=by
 unfold eY at hr
 have T:=an @e_c.eq_1 <| @e_ii.eq_1
 apply Spec.fn Tryz.func51 rfl
 focus (simp[Tryz.f51]<;>exact rfl)
 focus
  refine wa_ T (g:=?_)
  obtain⟨⟨v4,v5⟩,h1,hr⟩:=bs hr
  try dsimp only at hr
  apply TO.cal (wn T) rfl aCs (yJ h1) rfl rfl rfl
  repeat exact sd T
  refine wa_ T (g:=?_)
  apply TO.pop1 (wn T) (cG rfl)
  repeat exact sd T
  refine wa_ T (g:=?_)
  rcases ifs hr with⟨h2,hr⟩|⟨h2,hr⟩
  ·have T:=an h2 T
   refine wa_ T (g:=?_)
   cases hr
   refine⟨.inr rfl,_,(ry T),?_⟩
   exact wk_ T [some 0] rfl (.rows .nil rfl rfl)
  ·have T:=an h2 T
   refine wa_ T (g:=?_)
   cases hr
   refine⟨.inr rfl,_,(ry T),?_⟩
   exact wk_ T [none] rfl (.virt .nil)
 rfl
end Go.Rex
