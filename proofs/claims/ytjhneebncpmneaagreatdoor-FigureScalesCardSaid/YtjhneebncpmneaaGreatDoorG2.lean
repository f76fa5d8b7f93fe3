/- Proofs that the program's functions do what these plain functions say. -/
import Derived.Test.YtjhneebncpmneaaGreatDoorGB
import Derived.Test.YtjhneebncpmneaaGreatDoorS
import Derived.Test.YtjhneebncpmneaaGreatDoorG1
import Derived.Test.YtjhneebncpmneaaGreatDoorCZ
set_option linter.unusedSimpArgs false
set_option linter.unusedVariables false
set_option linter.defProp false
namespace Go.Rex
open Go.Proofs
open Go Go.Rex Go.RowKit
set_option maxRecDepth 100000
set_option maxHeartbeats 1000000
def y55:=an @un195 <| @un3
theorem sP{v1:Int}{v2:Int}{v3:Int}{v4:Int}{v5:Int}(hr:jH v1 v2 v3=some (v4,v5)):Spec (lim Tryz.prog) 153 [.v (.int .u64 v1),.v (.int .u64 v2),.v (.int .u64 v3)] ⟨[.tuple [.v (.int .u64 v4),.v (.int .u64 v5)]],[]⟩:=by
 unfold jH at hr
 have T:=y55
 apply Spec.fn Tryz.func153 rfl
 focus (simp[Tryz.f153]<;>exact rfl)
 focus
  refine wa_ T (g:=?_)
  rcases ifs hr with⟨h1,hr⟩|⟨h1,hr⟩
  ·cases hr
  ·have T:=an h1 T
   refine wa_ T (g:=?_)
   rcases ifs hr with⟨h2,hr⟩|⟨h2,hr⟩
   ·cases hr
   ·have T:=an h2 T
    refine wa_ T (g:=?_)
    rcases ifs hr with⟨h3,hr⟩|⟨h3,hr⟩
    ·have T:=an h3 T
     refine wa_ T (g:=?_)
     by_cases h4:v3=0
     ·rw[if_pos h4] at hr
      cases hr
     ·rw[if_neg h4] at hr
      have T:=an h4 T
      refine wa_ T (g:=?_)
      cases hr
      refine⟨.inr rfl,_,(ry T),?_⟩
      exact wk_ T [] rfl .nil
    ·have T:=an h3 T
     refine wa_ T (g:=?_)
     obtain⟨v6,h5,hr⟩:=bs hr
     apply TO.cal (wn T) rfl Vu (nJ h5) rfl rfl rfl
     repeat exact sd T
     refine wa_ T (g:=?_)
     apply TO.pop1 (wn T) (bM un3 un195 rfl)
     repeat exact sd T
     refine wa_ T (g:=?_)
     obtain⟨v7,h6,hr⟩:=bs hr
     apply TO.pop1 (wn T) (dE rfl rfl (by decide) (h6))
     repeat exact sd T
     refine wa_ T (g:=?_)
     obtain⟨v8,h7,hr⟩:=bs hr
     apply TO.pop1 (wn T) (dE rfl rfl (by decide) (h7))
     repeat exact sd T
     refine wa_ T (g:=?_)
     apply TO.pop1 (wn T) (oM rfl rfl (by decide))
     repeat exact sd T
     refine wa_ T (g:=?_)
     obtain⟨v9,h8,hr⟩:=bs hr
     apply TO.pop1 (wn T) (dE rfl rfl (by decide) (h8))
     repeat exact sd T
     refine wa_ T (g:=?_)
     obtain⟨v10,h9,hr⟩:=bs hr
     apply TO.pop1 (wn T) (dE rfl rfl (by decide) (h9))
     repeat exact sd T
     refine wa_ T (g:=?_)
     apply TO.pop1 (wn T) (oM rfl rfl (by decide))
     repeat exact sd T
     refine wa_ T (g:=?_)
     obtain⟨v11,h10,hr⟩:=bs hr
     apply TO.pop1 (wn T) (dE rfl rfl (by decide) (h10))
     repeat exact sd T
     refine wa_ T (g:=?_)
     obtain⟨v12,h11,hr⟩:=bs hr
     apply TO.pop1 (wn T) (dE rfl rfl (by decide) (h11))
     repeat exact sd T
     refine wa_ T (g:=?_)
     apply TO.pop1 (wn T) (oM rfl rfl (by decide))
     repeat exact sd T
     refine wa_ T (g:=?_)
     by_cases h12:v8=0
     ·rw[if_pos h12] at hr
      cases hr
     ·rw[if_neg h12] at hr
      have T:=an h12 T
      refine wa_ T (g:=?_)
      obtain⟨v16,h21,hr⟩:=bs hr
      refine TX.loopE (step:=cV v7 v8 v12) (x:=((IntKind.u64.wrap ((gZ .or .u64 v9 v10).tdiv v8)),(IntKind.u64.wrap ((gZ .or .u64 v9 v10)-(IntKind.u64.wrap ((IntKind.u64.wrap ((gZ .or .u64 v9 v10).tdiv v8))*v8)))))) h21 (fun (v13,v14)=>⟨.junk :: .junk :: .v (.int .u64 v7) :: .junk :: .junk :: .junk :: .junk :: .junk :: .v (.int .u64 (IntKind.u64.wrap v6)) :: .v (.int .u64 v8) :: .v (.int .u64 (gZ .and .u64 v7 4294967295)) :: .v (.int .u64 (gZ .or .u64 v9 v10)) :: .junk :: .v (.int .u64 v12) :: .v (.int .u64 (gZ .and .u64 v11 4294967295)) :: .v (.int .u64 v13) :: .v (.int .u64 v14) :: .junk :: .junk :: .junk :: .junk :: .junk :: .junk :: .junk :: .junk :: .junk :: .junk :: .junk :: .junk :: .junk :: .junk :: .junk :: .junk :: .junk :: .junk :: .junk :: .junk :: .junk :: .junk :: .junk :: .junk :: .junk :: .junk :: .junk :: .junk :: .junk :: .junk :: .junk :: .junk :: .junk :: .junk :: .junk :: .junk :: .junk :: .junk :: .junk :: .junk :: .junk :: .junk :: .junk :: .junk :: .junk :: .junk :: .junk :: .junk :: .junk :: .junk :: .junk :: .junk :: .junk :: .junk :: .junk :: .junk :: .junk :: .junk :: .junk :: .junk :: .junk :: .junk :: .junk :: .junk :: .junk :: .junk :: .junk :: .junk :: .junk :: .junk :: .junk :: .junk :: .junk :: .junk :: .junk :: .junk :: .junk :: .junk :: .junk :: .junk :: .junk :: .junk :: .junk :: .junk :: .junk :: .junk :: .junk :: .junk :: .junk :: .junk :: .junk :: .junk :: .junk :: .junk :: .junk :: .junk :: .junk :: .junk :: .junk :: .junk :: .junk :: .junk :: .junk :: .junk :: .junk :: .junk :: .junk :: .junk :: .junk :: .junk :: .junk :: .junk :: .junk :: .junk :: .junk :: .junk :: .junk :: .junk::[],[]⟩) (fun v15=>(.exit 0,⟨.junk :: .junk :: .v (.int .u64 v7) :: .junk :: .junk :: .junk :: .junk :: .junk :: .v (.int .u64 (IntKind.u64.wrap v6)) :: .v (.int .u64 v8) :: .v (.int .u64 (gZ .and .u64 v7 4294967295)) :: .v (.int .u64 (gZ .or .u64 v9 v10)) :: .junk :: .v (.int .u64 v12) :: .v (.int .u64 (gZ .and .u64 v11 4294967295)) :: .v (.int .u64 v15) :: .junk :: .junk :: .junk :: .junk :: .junk :: .junk :: .junk :: .junk :: .junk :: .junk :: .junk :: .junk :: .junk :: .junk :: .junk :: .junk :: .junk :: .junk :: .junk :: .junk :: .junk :: .junk :: .junk :: .junk :: .junk :: .junk :: .junk :: .junk :: .junk :: .junk :: .junk :: .junk :: .junk :: .junk :: .junk :: .junk :: .junk :: .junk :: .junk :: .junk :: .junk :: .junk :: .junk :: .junk :: .junk :: .junk :: .junk :: .junk :: .junk :: .junk :: .junk :: .junk :: .junk :: .junk :: .junk :: .junk :: .junk :: .junk :: .junk :: .junk :: .junk :: .junk :: .junk :: .junk :: .junk :: .junk :: .junk :: .junk :: .junk :: .junk :: .junk :: .junk :: .junk :: .junk :: .junk :: .junk :: .junk :: .junk :: .junk :: .junk :: .junk :: .junk :: .junk :: .junk :: .junk :: .junk :: .junk :: .junk :: .junk :: .junk :: .junk :: .junk :: .junk :: .junk :: .junk :: .junk :: .junk :: .junk :: .junk :: .junk :: .junk :: .junk :: .junk :: .junk :: .junk :: .junk :: .junk :: .junk :: .junk :: .junk :: .junk :: .junk :: .junk :: .junk :: .junk :: .junk :: .junk :: .junk :: .junk::[],[]⟩)) ?_ ?_ ?_ ?_
      ·rintro⟨v13,v14⟩ v0 hr
       dsimp only[cV] at hr
       try dsimp only
       refine wa_ T (g:=?_)
       rcases ifs hr with⟨h17,hr⟩|⟨h17,hr⟩
       ·have T:=an h17 T
        refine wa_ T (g:=?_)
        rcases ifs hr with⟨h18,hr⟩|⟨h18,hr⟩
        ·have T:=an h18 T
         refine wa_ T (g:=?_)
         cases hr
         refine⟨rfl,?_⟩
         exact wk_ T [] rfl .nil
        ·have T:=an h18 T
         refine wa_ T (g:=?_)
         cases hr
         refine⟨rfl,?_⟩
         exact wk_ T [] rfl .nil
       ·have T:=an h17 T
        refine wa_ T (g:=?_)
        rcases ifs hr with⟨h19,hr⟩|⟨h19,hr⟩
        ·have T:=an h19 T
         refine wa_ T (g:=?_)
         rcases ifs hr with⟨h20,hr⟩|⟨h20,hr⟩
         ·have T:=an h20 T
          refine wa_ T (g:=?_)
          cases hr
          refine⟨rfl,?_⟩
          exact wk_ T [] rfl .nil
         ·have T:=an h20 T
          refine wa_ T (g:=?_)
          cases hr
          refine⟨rfl,?_⟩
          exact wk_ T [] rfl .nil
        ·have T:=an h19 T
         refine wa_ T (g:=?_)
         cases hr
         refine⟨rfl,?_⟩
         exact wk_ T [] rfl .nil
      ·intro e h;cases h
      ·try dsimp only
       refine wa_ T (g:=?_)
       obtain⟨v20,h30,hr⟩:=bs hr
       refine TX.loopE (step:=dA v7 v8 v11) (x:=((IntKind.u64.wrap ((IntKind.u64.wrap ((IntKind.u64.wrap ((IntKind.u64.wrap ((gZ .or .u64 v9 v10)*4294967296))+v12))-(IntKind.u64.wrap (v16*v7))))-(IntKind.u64.wrap ((IntKind.u64.wrap ((IntKind.u64.wrap ((IntKind.u64.wrap ((IntKind.u64.wrap ((gZ .or .u64 v9 v10)*4294967296))+v12))-(IntKind.u64.wrap (v16*v7)))).tdiv v8))*v8)))),(IntKind.u64.wrap ((IntKind.u64.wrap ((IntKind.u64.wrap ((IntKind.u64.wrap ((gZ .or .u64 v9 v10)*4294967296))+v12))-(IntKind.u64.wrap (v16*v7)))).tdiv v8)))) h30 (fun (v17,v18)=>⟨.junk :: .junk :: .v (.int .u64 v7) :: .junk :: .junk :: .junk :: .junk :: .junk :: .v (.int .u64 (IntKind.u64.wrap v6)) :: .v (.int .u64 v8) :: .v (.int .u64 (gZ .and .u64 v7 4294967295)) :: .junk :: .junk :: .junk :: .v (.int .u64 (gZ .and .u64 v11 4294967295)) :: .v (.int .u64 v16) :: .v (.int .u64 v17) :: .v (.int .u64 (IntKind.u64.wrap ((IntKind.u64.wrap ((IntKind.u64.wrap ((gZ .or .u64 v9 v10)*4294967296))+v12))-(IntKind.u64.wrap (v16*v7))))) :: .v (.int .u64 v18) :: .junk :: .junk :: .junk :: .junk :: .junk :: .junk :: .junk :: .junk :: .junk :: .junk :: .junk :: .junk :: .junk :: .junk :: .junk :: .junk :: .junk :: .junk :: .junk :: .junk :: .junk :: .junk :: .junk :: .junk :: .junk :: .junk :: .junk :: .junk :: .junk :: .junk :: .junk :: .junk :: .junk :: .junk :: .junk :: .junk :: .junk :: .junk :: .junk :: .junk :: .junk :: .junk :: .junk :: .junk :: .junk :: .junk :: .junk :: .junk :: .junk :: .junk :: .junk :: .junk :: .junk :: .junk :: .junk :: .junk :: .junk :: .junk :: .junk :: .junk :: .junk :: .junk :: .junk :: .junk :: .junk :: .junk :: .junk :: .junk :: .junk :: .junk :: .junk :: .junk :: .junk :: .junk :: .junk :: .junk :: .junk :: .junk :: .junk :: .junk :: .junk :: .junk :: .junk :: .junk :: .junk :: .junk :: .junk :: .junk :: .junk :: .junk :: .junk :: .junk :: .junk :: .junk :: .junk :: .junk :: .junk :: .junk :: .junk :: .junk :: .junk :: .junk :: .junk :: .junk :: .junk :: .junk :: .junk :: .junk :: .junk :: .junk :: .junk :: .junk :: .junk :: .junk :: .junk :: .junk::[],[]⟩) (fun v19=>(.exit 2,⟨.junk :: .junk :: .v (.int .u64 v7) :: .junk :: .junk :: .junk :: .junk :: .junk :: .v (.int .u64 (IntKind.u64.wrap v6)) :: .junk :: .junk :: .junk :: .junk :: .junk :: .v (.int .u64 (gZ .and .u64 v11 4294967295)) :: .v (.int .u64 v16) :: .junk :: .v (.int .u64 (IntKind.u64.wrap ((IntKind.u64.wrap ((IntKind.u64.wrap ((gZ .or .u64 v9 v10)*4294967296))+v12))-(IntKind.u64.wrap (v16*v7))))) :: .v (.int .u64 v19) :: .junk :: .junk :: .junk :: .junk :: .junk :: .junk :: .junk :: .junk :: .junk :: .junk :: .junk :: .junk :: .junk :: .junk :: .junk :: .junk :: .junk :: .junk :: .junk :: .junk :: .junk :: .junk :: .junk :: .junk :: .junk :: .junk :: .junk :: .junk :: .junk :: .junk :: .junk :: .junk :: .junk :: .junk :: .junk :: .junk :: .junk :: .junk :: .junk :: .junk :: .junk :: .junk :: .junk :: .junk :: .junk :: .junk :: .junk :: .junk :: .junk :: .junk :: .junk :: .junk :: .junk :: .junk :: .junk :: .junk :: .junk :: .junk :: .junk :: .junk :: .junk :: .junk :: .junk :: .junk :: .junk :: .junk :: .junk :: .junk :: .junk :: .junk :: .junk :: .junk :: .junk :: .junk :: .junk :: .junk :: .junk :: .junk :: .junk :: .junk :: .junk :: .junk :: .junk :: .junk :: .junk :: .junk :: .junk :: .junk :: .junk :: .junk :: .junk :: .junk :: .junk :: .junk :: .junk :: .junk :: .junk :: .junk :: .junk :: .junk :: .junk :: .junk :: .junk :: .junk :: .junk :: .junk :: .junk :: .junk :: .junk :: .junk :: .junk :: .junk :: .junk :: .junk :: .junk :: .junk::[],[]⟩)) ?_ ?_ ?_ ?_
       ·rintro⟨v17,v18⟩ v0 hr
        dsimp only[dA] at hr
        try dsimp only
        refine wa_ T (g:=?_)
        rcases ifs hr with⟨h26,hr⟩|⟨h26,hr⟩
        ·have T:=an h26 T
         refine wa_ T (g:=?_)
         rcases ifs hr with⟨h27,hr⟩|⟨h27,hr⟩
         ·have T:=an h27 T
          refine wa_ T (g:=?_)
          cases hr
          refine⟨rfl,?_⟩
          exact wk_ T [] rfl .nil
         ·have T:=an h27 T
          refine wa_ T (g:=?_)
          cases hr
          refine⟨rfl,?_⟩
          exact wk_ T [] rfl .nil
        ·have T:=an h26 T
         refine wa_ T (g:=?_)
         rcases ifs hr with⟨h28,hr⟩|⟨h28,hr⟩
         ·have T:=an h28 T
          refine wa_ T (g:=?_)
          rcases ifs hr with⟨h29,hr⟩|⟨h29,hr⟩
          ·have T:=an h29 T
           refine wa_ T (g:=?_)
           cases hr
           refine⟨rfl,?_⟩
           exact wk_ T [] rfl .nil
          ·have T:=an h29 T
           refine wa_ T (g:=?_)
           cases hr
           refine⟨rfl,?_⟩
           exact wk_ T [] rfl .nil
         ·have T:=an h28 T
          refine wa_ T (g:=?_)
          cases hr
          refine⟨rfl,?_⟩
          exact wk_ T [] rfl .nil
       ·intro e h;cases h
       ·try dsimp only
        refine wa_ T (g:=?_)
        obtain⟨v21,h31,hr⟩:=bs hr
        apply TO.pop1 (wn T) (dE rfl rfl (by decide) (h31))
        repeat exact sd T
        refine wa_ T (g:=?_)
        cases hr
        refine⟨.inr rfl,_,(ry T),?_⟩
        exact wk_ T [] rfl .nil
       ·try dsimp only
        exact wk_ T [] rfl .nil
      ·try dsimp only
       exact wk_ T [] rfl .nil
 rfl
end Go.Rex
namespace Go.Rex
open Go.Proofs
open Go Go.Rex Go.RowKit
set_option maxRecDepth 100000
set_option maxHeartbeats 200000
def y56:=an @ag122 <| an @Nd <| an @Ml <| an @un122 <| @un3
theorem mJ{v1:Int}{v2:Int}{v3:Int}{v4:Int}{v5:Int}(hr:eK v1 v2 v3=some (v4,v5)):Spec (lim Tryz.prog) 135 [.agg [.v (.int .u64 v1),.v (.int .u64 v2)],.v (.int .i64 v3)] ⟨[.tuple [.v (.int .i64 v4),.v (.int .i64 v5)]],[]⟩:=by
 unfold eK at hr
 have T:=y56
 apply Spec.fn Tryz.func135 rfl
 focus (simp[Tryz.f135]<;>exact rfl)
 focus
  refine wB T (g:=?_)
  apply TO.pop1 (wn T) (bM un3 un122 rfl)
  repeat exact sd T
  refine wa_ T (g:=?_)
  obtain⟨⟨v6,v7⟩,h1,hr⟩:=bs hr
  try dsimp only at hr
  apply TO.cal (wn T) rfl Us (sP h1) rfl rfl rfl
  repeat exact sd T
  refine wa_ T (g:=?_)
  apply TO.pop1 (wn T) (bM un122 un3 rfl)
  repeat exact sd T
  refine wa_ T (g:=?_)
  apply TO.pop1 (wn T) (bM un122 un3 rfl)
  repeat exact sd T
  refine wa_ T (g:=?_)
  rcases ifs hr with⟨h2,hr⟩|⟨h2,hr⟩
  ·have T:=an h2 T
   refine wa_ T (g:=?_)
   cases hr
   refine⟨.inr rfl,_,(ry T),?_⟩
   exact wk_ T [] rfl .nil
  ·have T:=an h2 T
   refine wa_ T (g:=?_)
   cases hr
   refine⟨.inr rfl,_,(ry T),?_⟩
   exact wk_ T [] rfl .nil
 rfl
end Go.Rex
namespace Go.Rex
open Go.Proofs
open Go Go.Rex Go.RowKit
set_option maxRecDepth 100000
set_option maxHeartbeats 1000000
def y57:=an @ag100 <| an @ag3 <| an @ag30 <| an @ag94 <| an @cs100 <| an @cs30 <| an @cs31 <| an @cs94 <| an @gS <| an @uL <| an @sG <| an @Lg <| an @lX <| an @oK <| an @uW <| an @ok100 <| an @ok30 <| an @ok94 <| an @so149 <| an @st100 <| an @zc100 <| @zc31
theorem pS{v1:Int}{v2:(List Nat)}{v3:Int}{v4:Int}{v5:Int}{v6:Int}{v7:Int}(hr:fX v1 v2 v3 v4=some (v5,v6,v7)):Spec (lim Tryz.prog) 89 [.agg [.v (.int .i64 v1),.list 1 (v2.map e_f),.v (.int .i64 v3),.v (.int .i64 v4)]] ⟨[.tuple [.agg [.v (.int .i64 v5),.v (.int .i64 v6)],.v (.int .i64 v7)]],[]⟩:=by
 unfold fX at hr
 have T:=an y57 <| an @e_f.eq_1 <| @e_i.eq_1
 apply Spec.fn Tryz.func89 rfl
 focus (simp[Tryz.f89]<;>exact rfl)
 focus
  refine wB T (g:=?_)
  obtain⟨⟨v8,v9⟩,h1,hr⟩:=bs hr
  try dsimp only at hr
  apply TD.cal (wn T) rfl Kl (jM h1) rfl rfl rfl
  repeat exact sd T
  refine wA T (g:=?_)
  obtain⟨⟨v10,v11⟩,h2,hr⟩:=bs hr
  try dsimp only at hr
  apply TD.cal (wn T) rfl Wo (qA h2) rfl rfl rfl
  repeat exact sd T
  refine wA T (g:=?_)
  obtain⟨v12,h3,hr⟩:=bs hr
  apply TD.cal (wn T) rfl lV (bC h3) rfl rfl rfl
  repeat exact sd T
  refine wA T (g:=?_)
  obtain⟨v13,h4,hr⟩:=bs hr
  apply TD.cal (wn T) rfl lV (bC h4) rfl rfl rfl
  repeat exact sd T
  refine wa_ T (g:=?_)
  apply TD.bm e_i ([v12,v13]:List Int) (wn T) rfl (by simp only[zz,y57,e_f,e_i,Nat.reduceAdd,Nat.reduceMul,Nat.reduceLeDiff,Nat.reduceEqDiff,tslice,tparts];exact rfl) rfl
  repeat exact sd T
  refine wa_ T (g:=?_)
  obtain⟨v14,h5,hr⟩:=bs hr
  apply TD.cal (wn T) rfl nR (aW h5) rfl rfl rfl
  repeat exact sd T
  refine wa_ T (g:=?_)
  rcases ifs hr with⟨h6,hr⟩|⟨h6,hr⟩
  ·have T:=an h6 T
   refine wa_ T (g:=?_)
   cases hr
   refine⟨.inr rfl,_,(ry T),?_⟩
   exact wk_ T [] rfl .nil
  ·have T:=an h6 T
   refine wA T (g:=?_)
   obtain⟨⟨v15,v16⟩,h7,hr⟩:=bs hr
   try dsimp only at hr
   apply TD.cal (wn T) rfl pB (cR h7) rfl rfl rfl
   repeat exact sd T
   refine wA T (g:=?_)
   obtain⟨⟨v17,v18⟩,h8,hr⟩:=bs hr
   try dsimp only at hr
   apply TD.cal (wn T) rfl Lw (mJ h8) rfl rfl rfl
   repeat exact sd T
   refine wA T (g:=?_)
   obtain⟨⟨v19,v20⟩,h9,hr⟩:=bs hr
   try dsimp only at hr
   apply TD.cal (wn T) rfl pB (cR h9) rfl rfl rfl
   repeat exact sd T
   refine wA T (g:=?_)
   obtain⟨⟨v21,v22⟩,h10,hr⟩:=bs hr
   try dsimp only at hr
   apply TD.cal (wn T) rfl Lw (mJ h10) rfl rfl rfl
   repeat exact sd T
   refine wA T (g:=?_)
   obtain⟨v23,h11,hr⟩:=bs hr
   apply TO.cal (wn T) rfl pR (bS h11) rfl rfl rfl
   repeat exact sd T
   refine wA T (g:=?_)
   obtain⟨⟨v24,v25⟩,h12,hr⟩:=bs hr
   try dsimp only at hr
   apply TD.cal (wn T) rfl kV (bG h12) rfl rfl rfl
   repeat exact sd T
   refine wa_ T (g:=?_)
   obtain⟨⟨v26,v27⟩,h13,hr⟩:=bs hr
   try dsimp only at hr
   apply TD.cal (wn T) rfl Ll (jC h13) rfl rfl rfl
   repeat exact sd T
   refine wa_ T (g:=?_)
   apply TD.pop1 (wn T) (Mk rfl rfl)
   repeat exact sd T
   refine wa_ T (g:=?_)
   obtain⟨⟨v28,v29⟩,h14,hr⟩:=bs hr
   try dsimp only at hr
   apply TD.cal (wn T) rfl kV (bG h14) rfl rfl rfl
   repeat exact sd T
   refine wa_ T (g:=?_)
   cases hr
   refine⟨.inr rfl,_,(ry T),?_⟩
   exact wk_ T [] rfl .nil
 rfl
end Go.Rex
namespace Go.Rex
open Go.Proofs
open Go Go.Rex Go.RowKit
set_option maxRecDepth 100000
set_option maxHeartbeats 200000
def y58:=an @ag26 <| an @ag30 <| an @ag94 <| an @cs100 <| an @cs26 <| an @cs30 <| an @cs94 <| an @gS <| an @ok100 <| an @ok26 <| an @ok30 <| an @ok94 <| an @st30 <| an @zc100 <| an @zc30 <| @zc94
theorem oN{v1:Int}{v2:(List Nat)}{v3:Int}{v4:Int}{v5:Int}{v6:Int}{v7:Int}(hr:iL v1 v2 v3 v4=some (v5,v6,v7)):Spec (lim Tryz.prog) 47 [.agg [.v (.int .i64 v1),.list 1 (v2.map e_f),.v (.int .i64 v3),.v (.int .i64 v4)]] ⟨[.tuple [.agg [.v (.int .i64 v5),.v (.int .i64 v6)],.v (.int .i64 v7)]],[]⟩:=by
 unfold iL at hr
 have T:=an y58 <| @e_f.eq_1
 apply Spec.fn Tryz.func47 rfl
 focus (simp[Tryz.f47]<;>exact rfl)
 focus
  refine wB T (g:=?_)
  obtain⟨⟨v8,v9,v10,v11,v12⟩,h1,hr⟩:=bs hr
  try dsimp only at hr
  apply TO.cal (wn T) rfl zT (iQ h1) rfl rfl rfl
  repeat exact sd T
  refine wa_ T (g:=?_)
  rcases ifs hr with⟨h2,hr⟩|⟨h2,hr⟩
  ·have T:=an h2 T
   refine wa_ T (g:=?_)
   cases hr
   refine⟨.inr rfl,_,(ry T),?_⟩
   exact wk_ T [] rfl .nil
  ·have T:=an h2 T
   refine wA T (g:=?_)
   obtain⟨⟨v13,v14,v15⟩,h3,hr⟩:=bs hr
   try dsimp only at hr
   apply TO.cal (wn T) rfl Yt (pS h3) rfl rfl rfl
   repeat exact sd T
   refine wA T (g:=?_)
   cases hr
   refine⟨.inr rfl,_,(ry T),?_⟩
   exact wk_ T [] rfl .nil
 rfl
end Go.Rex
namespace Go.Rex
open Go.Proofs
open Go Go.Rex Go.RowKit
set_option maxRecDepth 100000
end Go.Rex
namespace Go.Rex
open Go.Proofs
open Go Go.Rex Go.RowKit
set_option maxRecDepth 100000
set_option maxHeartbeats 4000000
def y59:=an @ag22 <| an @ag24 <| an @ag26 <| an @ag30 <| an @ag50 <| an @ag82 <| an @cs24 <| an @cs26 <| an @cs30 <| an @cs50 <| an @cs82 <| an @eqg30 <| an @eqg50 <| an @eqs30 <| an @eqs50 <| an @uF <| an @ok24 <| an @ok26 <| an @ok30 <| an @ok50 <| an @ok82 <| an @so22 <| an @st26 <| an @un3 <| an @un82 <| an @zc24 <| an @zc26 <| an @zc30 <| an @zc50 <| @lW
theorem qY {v1 : Int} {v2 : (List Nat)} {v3 : Int} {v4 : Int} (hr : iY v1 v2 v3 v4 = some true) {Fz : Nat → Prop} {h : List Blk} {vs : List Value} (hfz : FZ Fz h) (hargs : VLs Fz h noL [.agg [.v (.int .i64 v1), .list 1 (v2.map e_f)], .v (.int .i64 v3), .v (.int .i64 v4)] vs)
    {B lo:Nat} {D:Nat→Prop} {m:NMap} {w:World} {args':List Value} (hrel:Rel B lo D m h w) (hlo:lo≤h.length) (hargs':VRs D m vs args'):Calls Tryz.prog 11 ⟨args'⟩ w (fun e w'=>e = .returned (.bool true)∧Below w.heap.size w w'):=by
 unfold iY at hr
 have T:=an y59 <| @e_f.eq_1
 refine Uu follows awake_true Tryz.func11 rfl (tm0:=.agg [.v (.int .i64 v1),.list 1 (v2.map e_f)] :: .v (.int .i64 v3) :: .v (.int .i64 v4) :: .junk :: .junk :: .junk :: .junk :: .junk :: .junk :: .junk :: .junk :: .junk :: .junk :: .junk :: .junk :: .junk :: .junk :: .junk :: .junk :: .junk :: .junk :: .junk :: .junk :: .junk :: .junk :: .junk :: .junk :: .junk :: .junk :: .junk :: .junk :: .junk :: .junk :: .junk :: .junk :: .junk :: .junk :: .junk :: .junk :: .junk :: .junk :: .junk :: .junk :: .junk :: .junk :: .junk :: .junk :: .junk :: .junk :: .junk :: .junk :: .junk :: .junk :: .junk :: .junk :: .junk :: .junk :: .junk :: .junk :: .junk :: .junk :: .junk :: .junk :: .junk :: .junk :: .junk :: .junk :: .junk :: .junk :: .junk :: .junk :: .junk :: .junk :: .junk :: .junk :: .junk :: .junk :: .junk :: .junk :: .junk :: .junk :: .junk :: .junk :: .junk :: .junk :: .junk :: .junk :: .junk :: .junk :: .junk :: .junk :: .junk :: .junk :: .junk :: .junk :: .junk :: .junk :: .junk :: .junk :: .junk :: .junk :: .junk :: .junk :: .junk :: .junk :: .junk :: .junk :: .junk :: .junk :: .junk :: .junk :: .junk :: .junk :: .junk :: .junk :: .junk :: .junk :: .junk :: .junk :: .junk :: .junk :: .junk :: .junk :: .junk :: .junk :: .junk :: .junk :: .junk :: .junk :: .junk :: .junk :: .junk :: .junk :: .junk :: .junk :: .junk :: .junk :: .junk :: .junk :: .junk :: .junk :: .junk :: .junk :: .junk :: .junk :: .junk :: .junk :: .junk :: .junk :: .junk :: .junk :: .junk :: .junk :: .junk :: .junk :: .junk :: .junk :: .junk :: .junk :: .junk :: .junk :: .junk :: .junk :: .junk :: .junk :: .junk :: .junk :: .junk :: .junk :: .junk :: .junk :: .junk :: .junk :: .junk :: .junk :: .junk :: .junk :: .junk :: .junk :: .junk :: .junk :: .junk :: .junk :: .junk :: .junk :: .junk :: .junk :: .junk :: .junk :: .junk :: .junk :: .junk :: .junk :: .junk :: .junk :: .junk :: .junk :: .junk :: .junk :: .junk :: .junk :: .junk :: .junk :: .junk :: .junk :: .junk :: .junk :: .junk :: .junk :: .junk :: .junk :: .junk::[]) (by simp[Tryz.f11]<;>exact rfl) ?_ hfz hargs hrel hlo hargs'
 refine wb_ T (g:=?_)
 apply TO.cal (wn T) rfl Ym Spec.awake rfl rfl rfl
 repeat exact sd T
 refine wa_ T (g:=?_)
 apply TO.pop1 (wn T) (kT rfl)
 repeat exact sd T
 refine wA T (g:=?_)
 obtain⟨v6,h1,hr⟩:=bs hr
 apply TO.cal (wn T) rfl Yc (Spec.ov (Bg h1) (by decide)) rfl rfl rfl
 repeat exact sd T
 refine wa_ T (g:=?_)
 apply TO.pop1 (wn T) (kT rfl)
 repeat exact sd T
 refine wa_ T (g:=?_)
 rcases ifs hr with⟨h2,hr⟩|⟨h2,hr⟩
 ·have T:=an h2 T
  refine wA T (g:=?_)
  obtain⟨v7,h3,hr⟩:=bs hr
  apply TO.cal (wn T) rfl Yg (Spec.ov (rA h3) (by decide)) rfl rfl rfl
  repeat exact sd T
  refine wa_ T (g:=?_)
  rcases ifs hr with⟨h4,hr⟩|⟨h4,hr⟩
  ·have T:=an h4 T
   refine wa_ T (g:=?_)
   exact lv T hr
  ·have T:=an h4 T
   refine wa_ T (g:=?_)
   obtain⟨v8,h5,hr⟩:=bs hr
   apply TO.cal (wn T) rfl Ki (Spec.ov (mT h5) (by decide)) rfl rfl rfl
   repeat exact sd T
   refine wa_ T (g:=?_)
   apply TO.pop1 (wn T) (kT rfl)
   repeat exact sd T
   refine wa_ T (g:=?_)
   rcases ifs hr with⟨h6,hr⟩|⟨h6,hr⟩
   ·have T:=an h6 T
    refine wa_ T (g:=?_)
    obtain⟨v9,h7,hr⟩:=bs hr
    apply TO.cal (wn T) rfl Xt (Spec.ov (uU h7) (by decide)) rfl rfl rfl
    repeat exact sd T
    refine wa_ T (g:=?_)
    rcases ifs hr with⟨h8,hr⟩|⟨h8,hr⟩
    ·have T:=an h8 T
     refine wa_ T (g:=?_)
     exact lv T hr
    ·have T:=an h8 T
     refine wA T (g:=?_)
     obtain⟨⟨v10,v11⟩,h9,hr⟩:=bs hr
     try dsimp only at hr
     apply TO.cal (wn T) rfl sU (Spec.ov (cA h9) (by decide)) rfl rfl rfl
     repeat exact sd T
     refine wa_ T (g:=?_)
     obtain⟨v21,h22,hr⟩:=bs hr
     refine TX.loopE (step:=bE v2 v3) (x:=(v11,0)) h22 (fun (v12,v13)=>⟨.junk :: .v (.int .i64 v3) :: .v (.int .i64 v4) :: .fptr true [.v (.int .i64 v1),.list 1 (v2.map e_f)] 0 :: .junk :: .junk :: .junk :: .lptr 0 0 0 :: .v (.int .i64 v13) :: .junk :: .junk :: .junk :: .junk :: .junk :: .junk :: .junk :: .junk :: .junk :: .junk :: .junk :: .junk :: .junk :: .junk :: .junk :: .junk :: .junk :: .junk :: .junk :: .junk :: .junk :: .junk :: .junk :: .junk :: .junk :: .junk :: .junk :: .junk :: .junk :: .junk :: .junk :: .junk :: .junk :: .junk :: .junk :: .junk :: .junk :: .junk :: .junk :: .junk :: .junk :: .junk :: .junk :: .junk :: .junk :: .junk :: .junk :: .junk :: .junk :: .junk :: .junk :: .junk :: .junk :: .junk :: .junk :: .junk :: .junk :: .junk :: .junk :: .junk :: .junk :: .junk :: .junk :: .junk :: .junk :: .junk :: .junk :: .junk :: .junk :: .junk :: .junk :: .junk :: .junk :: .junk :: .junk :: .junk :: .junk :: .junk :: .junk :: .junk :: .junk :: .junk :: .junk :: .junk :: .junk :: .junk :: .junk :: .junk :: .junk :: .junk :: .junk :: .junk :: .junk :: .junk :: .junk :: .junk :: .junk :: .junk :: .junk :: .junk :: .junk :: .junk :: .junk :: .junk :: .junk :: .junk :: .junk :: .junk :: .junk :: .junk :: .junk :: .junk :: .junk :: .junk :: .junk :: .junk :: .junk :: .junk :: .junk :: .junk :: .junk :: .junk :: .junk :: .junk :: .junk :: .junk :: .junk :: .junk :: .junk :: .junk :: .junk :: .junk :: .junk :: .junk :: .junk :: .junk :: .junk :: .junk :: .junk :: .junk :: .junk :: .junk :: .junk :: .junk :: .junk :: .junk :: .junk :: .junk :: .junk :: .junk :: .junk :: .junk :: .junk :: .junk :: .junk :: .junk :: .junk :: .junk :: .junk :: .junk :: .junk :: .junk :: .junk :: .junk :: .junk :: .junk :: .junk :: .junk :: .junk :: .junk :: .junk :: .junk :: .junk :: .junk :: .junk :: .junk :: .junk :: .junk :: .junk :: .junk :: .junk :: .junk :: .junk :: .junk :: .junk :: .junk :: .junk :: .junk :: .junk :: .junk :: .junk :: .junk :: .junk :: .junk :: .junk :: .junk :: .junk :: .junk :: .junk :: .junk :: .junk :: .junk :: .junk::[],[.var [.v (.int .i64 v10),.lsl 1 0 v12.length],.rows 1 (v12.map e_f)]⟩) (fun e=>match e with|(.inl _)=>(.ret,⟨.junk :: .junk :: .junk :: .junk :: .junk :: .junk :: .v (.bool true) :: .junk :: .junk :: .junk :: .junk :: .junk :: .junk :: .junk :: .junk :: .junk :: .junk :: .junk :: .junk :: .junk :: .junk :: .junk :: .junk :: .junk :: .junk :: .junk :: .junk :: .junk :: .junk :: .junk :: .junk :: .junk :: .junk :: .junk :: .junk :: .junk :: .junk :: .junk :: .junk :: .junk :: .junk :: .junk :: .junk :: .junk :: .junk :: .junk :: .junk :: .junk :: .junk :: .junk :: .junk :: .junk :: .junk :: .junk :: .junk :: .junk :: .junk :: .junk :: .junk :: .junk :: .junk :: .junk :: .junk :: .junk :: .junk :: .junk :: .junk :: .junk :: .junk :: .junk :: .junk :: .junk :: .junk :: .junk :: .junk :: .junk :: .junk :: .junk :: .junk :: .junk :: .junk :: .junk :: .junk :: .junk :: .junk :: .junk :: .junk :: .junk :: .junk :: .junk :: .junk :: .junk :: .junk :: .junk :: .junk :: .junk :: .junk :: .junk :: .junk :: .junk :: .junk :: .junk :: .junk :: .junk :: .junk :: .junk :: .junk :: .junk :: .junk :: .junk :: .junk :: .junk :: .junk :: .junk :: .junk :: .junk :: .junk :: .junk :: .junk :: .junk :: .junk :: .junk :: .junk :: .junk :: .junk :: .junk :: .junk :: .junk :: .junk :: .junk :: .junk :: .junk :: .junk :: .junk :: .junk :: .junk :: .junk :: .junk :: .junk :: .junk :: .junk :: .junk :: .junk :: .junk :: .junk :: .junk :: .junk :: .junk :: .junk :: .junk :: .junk :: .junk :: .junk :: .junk :: .junk :: .junk :: .junk :: .junk :: .junk :: .junk :: .junk :: .junk :: .junk :: .junk :: .junk :: .junk :: .junk :: .junk :: .junk :: .junk :: .junk :: .junk :: .junk :: .junk :: .junk :: .junk :: .junk :: .junk :: .junk :: .junk :: .junk :: .junk :: .junk :: .junk :: .junk :: .junk :: .junk :: .junk :: .junk :: .junk :: .junk :: .junk :: .junk :: .junk :: .junk :: .junk :: .junk :: .junk :: .junk :: .junk :: .junk :: .junk :: .junk :: .junk :: .junk :: .junk :: .junk :: .junk :: .junk :: .junk :: .junk :: .junk::[],[]⟩)|(.inr v17)=>(.exit 0,⟨.junk :: .junk :: .v (.int .i64 v4) :: .fptr true [.v (.int .i64 v1),.list 1 (v2.map e_f)] 0 :: .junk :: .junk :: .junk :: .lptr 0 0 0 :: .junk :: .junk :: .junk :: .junk :: .junk :: .junk :: .junk :: .junk :: .junk :: .junk :: .junk :: .junk :: .junk :: .junk :: .junk :: .junk :: .junk :: .junk :: .junk :: .junk :: .junk :: .junk :: .junk :: .junk :: .junk :: .junk :: .junk :: .junk :: .junk :: .junk :: .junk :: .junk :: .junk :: .junk :: .junk :: .junk :: .junk :: .junk :: .junk :: .junk :: .junk :: .junk :: .junk :: .junk :: .junk :: .junk :: .junk :: .junk :: .junk :: .junk :: .junk :: .junk :: .junk :: .junk :: .junk :: .junk :: .junk :: .junk :: .junk :: .junk :: .junk :: .junk :: .junk :: .junk :: .junk :: .junk :: .junk :: .junk :: .junk :: .junk :: .junk :: .junk :: .junk :: .junk :: .junk :: .junk :: .junk :: .junk :: .junk :: .junk :: .junk :: .junk :: .junk :: .junk :: .junk :: .junk :: .junk :: .junk :: .junk :: .junk :: .junk :: .junk :: .junk :: .junk :: .junk :: .junk :: .junk :: .junk :: .junk :: .junk :: .junk :: .junk :: .junk :: .junk :: .junk :: .junk :: .junk :: .junk :: .junk :: .junk :: .junk :: .junk :: .junk :: .junk :: .junk :: .junk :: .junk :: .junk :: .junk :: .junk :: .junk :: .junk :: .junk :: .junk :: .junk :: .junk :: .junk :: .junk :: .junk :: .junk :: .junk :: .junk :: .junk :: .junk :: .junk :: .junk :: .junk :: .junk :: .junk :: .junk :: .junk :: .junk :: .junk :: .junk :: .junk :: .junk :: .junk :: .junk :: .junk :: .junk :: .junk :: .junk :: .junk :: .junk :: .junk :: .junk :: .junk :: .junk :: .junk :: .junk :: .junk :: .junk :: .junk :: .junk :: .junk :: .junk :: .junk :: .junk :: .junk :: .junk :: .junk :: .junk :: .junk :: .junk :: .junk :: .junk :: .junk :: .junk :: .junk :: .junk :: .junk :: .junk :: .junk :: .junk :: .junk :: .junk :: .junk :: .junk :: .junk :: .junk :: .junk :: .junk :: .junk :: .junk :: .junk :: .junk :: .junk :: .junk :: .junk :: .junk :: .junk :: .junk :: .junk :: .junk::[],[.var [.v (.int .i64 v10),.lsl 1 0 v17.length],.rows 1 (v17.map e_f)]⟩)) ?_ ?_ ?_ ?_
     ·rintro⟨v12,v13⟩ v0 hr
      dsimp only[bE] at hr
      try dsimp only
      refine wC T (g:=?_)
      rcases ifs hr with⟨h16,hr⟩|⟨h16,hr⟩
      ·have T:=an h16 T
       refine wA T (g:=?_)
       obtain⟨v18,h17,hr⟩:=bs hr
       have h17m:=qF (f:=e_f) h17
       have h17l:=mZ h17
       try simp only[List.length_set] at h17l
       have h17a:=pQ h17
       have T:=an h17m T
       have T:=an h17l T
       have T:=an h17a T
       refine wA T (g:=?_)
       apply TO.pop1 (wn T) (gL rfl rfl (by decide))
       repeat exact sd T
       refine wa_ T (g:=?_)
       rcases ifs hr with⟨h18,hr⟩|⟨h18,hr⟩
       ·have T:=an h18 T
        refine wa_ T (g:=?_)
        cases hr
        refine⟨rfl,?_⟩
        exact wk_ T [] rfl .nil
       ·have T:=an h18 T
        refine wA T (g:=?_)
        apply TO.pop1 (wn T) (gL rfl rfl (by decide))
        repeat exact sd T
        refine wa_ T (g:=?_)
        rcases ifs hr with⟨h19,hr⟩|⟨h19,hr⟩
        ·have T:=an h19 T
         refine wa_ T (g:=?_)
         cases hr
         refine⟨rfl,?_⟩
         exact wk_ T [] rfl .nil
        ·repeat (first|(with_reducible first|refine mv ?_|refine m12 rfl ?_|refine TD.nil ?_)|((with_reducible first|apply TD.fa|apply TD.ld|apply TD.mv);(repeat (focus (show _=_;first|exact k1 rfl|exact k2 rfl|(simp only[zz,y59,e_f,Nat.reduceAdd,Nat.reduceMul,Nat.reduceLeDiff,Nat.reduceEqDiff,bB,tload,fB,dW,List.getElem?_map,h2,h4,h6,h8,h16,h17m,h17l,h17a,h18,h19]<;>exact rfl)|exact rfl)));(with_reducible refine TD.here ?_))|((with_reducible apply TD.ldF);(focus decide +kernel);(repeat (focus (show _=_;first|exact k1 rfl|exact k2 rfl|(simp only[zz,y59,e_f,Nat.reduceAdd,Nat.reduceMul,Nat.reduceLeDiff,Nat.reduceEqDiff,bB,tload,fB,dW,List.getElem?_map,h2,h4,h6,h8,h16,h17m,h17l,h17a,h18,h19]<;>exact rfl)|exact rfl)));(with_reducible refine TD.here ?_))|((with_reducible apply TX.drawn);(focus decide +kernel);(focus (simp only[zl]<;>exact rfl));(focus exact rfl);(try dsimp only))|((with_reducible apply TX.cond_true);(focus rfl);(focus (first|rfl|(simp only[z1,zn,h2,h4,h6,h8,h16,h17m,h17l,h17a,h18,h19];done))))|((with_reducible apply TX.cond_false);(focus rfl);(focus (first|rfl|(simp only[z1,zn,h2,h4,h6,h8,h16,h17m,h17l,h17a,h18,h19];done))))|fail)
         have T:=an h19 T
         apply TD.pop1 (wn T) (tY un3 un82 rfl)
         repeat exact sd T
         repeat (first|(with_reducible first|refine mv ?_|refine m12 rfl ?_|refine TD.nil ?_)|((with_reducible first|apply TD.fa|apply TD.ld|apply TD.mv|apply TD.ia);(repeat (focus (show _=_;first|exact k1 rfl|exact k2 rfl|(simp only[zz,y59,e_f,Nat.reduceAdd,Nat.reduceMul,Nat.reduceLeDiff,Nat.reduceEqDiff,bB,tload,fB,dW,List.getElem?_map,bP,Nat.zero_add,h2,h4,h6,h8,h16,h17m,h17l,h17a,h18,h19]<;>exact rfl)|exact rfl)));(with_reducible refine TD.here ?_))|((with_reducible apply TD.ldF);(focus decide +kernel);(repeat (focus (show _=_;first|exact k1 rfl|exact k2 rfl|(simp only[zz,y59,e_f,Nat.reduceAdd,Nat.reduceMul,Nat.reduceLeDiff,Nat.reduceEqDiff,bB,tload,fB,dW,List.getElem?_map,bP,Nat.zero_add,h2,h4,h6,h8,h16,h17m,h17l,h17a,h18,h19]<;>exact rfl)|exact rfl)));(with_reducible refine TD.here ?_))|((with_reducible apply TX.drawn);(focus decide +kernel);(focus (simp only[zl]<;>exact rfl));(focus exact rfl);(try dsimp only))|fail)
         obtain⟨v19,h20,hr⟩:=bs hr
         apply TD.pop1 (wn T) (Ae rfl rfl (by decide) (h20))
         repeat exact sd T
         refine wa_ T (g:=?_)
         obtain⟨v20,h21,hr⟩:=bs hr
         have h21m:=qF (f:=e_f) h21
         have h21l:=mZ h21
         try simp only[List.length_set] at h21l
         have h21a:=pQ h21
         have T:=an h21m T
         have T:=an h21l T
         have T:=an h21a T
         refine wa_ T (g:=?_)
         apply TD.sr e_f v12 v20 v19 h21a (wn T) rfl rfl rfl rfl rfl ok82 (by rw[cs82];rfl) rfl rfl rfl rfl rfl
         repeat exact sd T
         refine wa_ T (g:=?_)
         cases hr
         refine⟨rfl,?_⟩
         exact wk_ T [some 0,some 1] rfl (rv (.rows .nil rfl rfl) rfl)
      ·have T:=an h16 T
       refine wa_ T (g:=?_)
       cases hr
       refine⟨rfl,?_⟩
       exact wk_ T [some 0,some 1] rfl (rv (.rows .nil rfl rfl) rfl)
     ·intro e h;rcases e with _|e<;>cases h
     ·try dsimp only
      rcases v21 with _|v22
      ·try dsimp only at hr
       try dsimp only
       refine wa_ T (g:=?_)
       exact lv T hr
      ·try dsimp only at hr
       try dsimp only
       refine wa_ T (g:=?_)
       obtain⟨v40,h37,hr⟩:=bs hr
       refine TX.loopE (step:=dN v1 v2 v10 v22) (x:=0) h37 (fun v23=>⟨.junk :: .junk :: .v (.int .i64 v4) :: .fptr true [.v (.int .i64 v1),.list 1 (v2.map e_f)] 0 :: .junk :: .junk :: .junk :: .lptr 0 0 0 :: .junk :: .v (.int .i64 v23) :: .junk :: .junk :: .junk :: .junk :: .junk :: .junk :: .junk :: .junk :: .junk :: .junk :: .junk :: .junk :: .junk :: .junk :: .junk :: .junk :: .junk :: .junk :: .junk :: .junk :: .junk :: .junk :: .junk :: .junk :: .junk :: .junk :: .junk :: .junk :: .junk :: .junk :: .junk :: .junk :: .junk :: .junk :: .junk :: .junk :: .junk :: .junk :: .junk :: .junk :: .junk :: .junk :: .junk :: .junk :: .junk :: .junk :: .junk :: .junk :: .junk :: .junk :: .junk :: .junk :: .junk :: .junk :: .junk :: .junk :: .junk :: .junk :: .junk :: .junk :: .junk :: .junk :: .junk :: .junk :: .junk :: .junk :: .junk :: .junk :: .junk :: .junk :: .junk :: .junk :: .junk :: .junk :: .junk :: .junk :: .junk :: .junk :: .junk :: .junk :: .junk :: .junk :: .junk :: .junk :: .junk :: .junk :: .junk :: .junk :: .junk :: .junk :: .junk :: .junk :: .junk :: .junk :: .junk :: .junk :: .junk :: .junk :: .junk :: .junk :: .junk :: .junk :: .junk :: .junk :: .junk :: .junk :: .junk :: .junk :: .junk :: .junk :: .junk :: .junk :: .junk :: .junk :: .junk :: .junk :: .junk :: .junk :: .junk :: .junk :: .junk :: .junk :: .junk :: .junk :: .junk :: .junk :: .junk :: .junk :: .junk :: .junk :: .junk :: .junk :: .junk :: .junk :: .junk :: .junk :: .junk :: .junk :: .junk :: .junk :: .junk :: .junk :: .junk :: .junk :: .junk :: .junk :: .junk :: .junk :: .junk :: .junk :: .junk :: .junk :: .junk :: .junk :: .junk :: .junk :: .junk :: .junk :: .junk :: .junk :: .junk :: .junk :: .junk :: .junk :: .junk :: .junk :: .junk :: .junk :: .junk :: .junk :: .junk :: .junk :: .junk :: .junk :: .junk :: .junk :: .junk :: .junk :: .junk :: .junk :: .junk :: .junk :: .junk :: .junk :: .junk :: .junk :: .junk :: .junk :: .junk :: .junk :: .junk :: .junk :: .junk :: .junk :: .junk :: .junk :: .junk :: .junk :: .junk :: .junk :: .junk :: .junk::[],[.var [.v (.int .i64 v10),.lsl 1 0 v22.length],.rows 1 (v22.map e_f)]⟩) (fun e=>match e with|(.inl _)=>(.ret,⟨.junk :: .junk :: .junk :: .junk :: .junk :: .junk :: .v (.bool false) :: .junk :: .junk :: .junk :: .junk :: .junk :: .junk :: .junk :: .junk :: .junk :: .junk :: .junk :: .junk :: .junk :: .junk :: .junk :: .junk :: .junk :: .junk :: .junk :: .junk :: .junk :: .junk :: .junk :: .junk :: .junk :: .junk :: .junk :: .junk :: .junk :: .junk :: .junk :: .junk :: .junk :: .junk :: .junk :: .junk :: .junk :: .junk :: .junk :: .junk :: .junk :: .junk :: .junk :: .junk :: .junk :: .junk :: .junk :: .junk :: .junk :: .junk :: .junk :: .junk :: .junk :: .junk :: .junk :: .junk :: .junk :: .junk :: .junk :: .junk :: .junk :: .junk :: .junk :: .junk :: .junk :: .junk :: .junk :: .junk :: .junk :: .junk :: .junk :: .junk :: .junk :: .junk :: .junk :: .junk :: .junk :: .junk :: .junk :: .junk :: .junk :: .junk :: .junk :: .junk :: .junk :: .junk :: .junk :: .junk :: .junk :: .junk :: .junk :: .junk :: .junk :: .junk :: .junk :: .junk :: .junk :: .junk :: .junk :: .junk :: .junk :: .junk :: .junk :: .junk :: .junk :: .junk :: .junk :: .junk :: .junk :: .junk :: .junk :: .junk :: .junk :: .junk :: .junk :: .junk :: .junk :: .junk :: .junk :: .junk :: .junk :: .junk :: .junk :: .junk :: .junk :: .junk :: .junk :: .junk :: .junk :: .junk :: .junk :: .junk :: .junk :: .junk :: .junk :: .junk :: .junk :: .junk :: .junk :: .junk :: .junk :: .junk :: .junk :: .junk :: .junk :: .junk :: .junk :: .junk :: .junk :: .junk :: .junk :: .junk :: .junk :: .junk :: .junk :: .junk :: .junk :: .junk :: .junk :: .junk :: .junk :: .junk :: .junk :: .junk :: .junk :: .junk :: .junk :: .junk :: .junk :: .junk :: .junk :: .junk :: .junk :: .junk :: .junk :: .junk :: .junk :: .junk :: .junk :: .junk :: .junk :: .junk :: .junk :: .junk :: .junk :: .junk :: .junk :: .junk :: .junk :: .junk :: .junk :: .junk :: .junk :: .junk :: .junk :: .junk :: .junk :: .junk :: .junk :: .junk :: .junk :: .junk :: .junk :: .junk :: .junk::[],[]⟩)|(.inr _)=>(.exit 2,⟨.junk :: .junk :: .v (.int .i64 v4) :: .fptr true [.v (.int .i64 v1),.list 1 (v2.map e_f)] 0 :: .junk :: .junk :: .junk :: .lptr 0 0 0 :: .junk :: .junk :: .junk :: .junk :: .junk :: .junk :: .junk :: .junk :: .junk :: .junk :: .junk :: .junk :: .junk :: .junk :: .junk :: .junk :: .junk :: .junk :: .junk :: .junk :: .junk :: .junk :: .junk :: .junk :: .junk :: .junk :: .junk :: .junk :: .junk :: .junk :: .junk :: .junk :: .junk :: .junk :: .junk :: .junk :: .junk :: .junk :: .junk :: .junk :: .junk :: .junk :: .junk :: .junk :: .junk :: .junk :: .junk :: .junk :: .junk :: .junk :: .junk :: .junk :: .junk :: .junk :: .junk :: .junk :: .junk :: .junk :: .junk :: .junk :: .junk :: .junk :: .junk :: .junk :: .junk :: .junk :: .junk :: .junk :: .junk :: .junk :: .junk :: .junk :: .junk :: .junk :: .junk :: .junk :: .junk :: .junk :: .junk :: .junk :: .junk :: .junk :: .junk :: .junk :: .junk :: .junk :: .junk :: .junk :: .junk :: .junk :: .junk :: .junk :: .junk :: .junk :: .junk :: .junk :: .junk :: .junk :: .junk :: .junk :: .junk :: .junk :: .junk :: .junk :: .junk :: .junk :: .junk :: .junk :: .junk :: .junk :: .junk :: .junk :: .junk :: .junk :: .junk :: .junk :: .junk :: .junk :: .junk :: .junk :: .junk :: .junk :: .junk :: .junk :: .junk :: .junk :: .junk :: .junk :: .junk :: .junk :: .junk :: .junk :: .junk :: .junk :: .junk :: .junk :: .junk :: .junk :: .junk :: .junk :: .junk :: .junk :: .junk :: .junk :: .junk :: .junk :: .junk :: .junk :: .junk :: .junk :: .junk :: .junk :: .junk :: .junk :: .junk :: .junk :: .junk :: .junk :: .junk :: .junk :: .junk :: .junk :: .junk :: .junk :: .junk :: .junk :: .junk :: .junk :: .junk :: .junk :: .junk :: .junk :: .junk :: .junk :: .junk :: .junk :: .junk :: .junk :: .junk :: .junk :: .junk :: .junk :: .junk :: .junk :: .junk :: .junk :: .junk :: .junk :: .junk :: .junk :: .junk :: .junk :: .junk :: .junk :: .junk :: .junk :: .junk :: .junk :: .junk :: .junk :: .junk :: .junk :: .junk :: .junk::[],[.var [.v (.int .i64 v10),.lsl 1 0 v22.length],.rows 1 (v22.map e_f)]⟩)) ?_ ?_ ?_ ?_
       ·rintro v23 v0 hr
        dsimp only[dN] at hr
        try dsimp only
        refine wa_ T (g:=?_)
        rcases ifs hr with⟨h30,hr⟩|⟨h30,hr⟩
        ·have T:=an h30 T
         refine wA T (g:=?_)
         obtain⟨⟨v32,v33⟩,h31,hr⟩:=bs hr
         try dsimp only at hr
         apply TO.cal (wn T) rfl sU (Spec.ov (cA h31) (by decide)) rfl rfl rfl
         repeat exact sd T
         refine wa_ T (g:=?_)
         obtain⟨⟨v34,v35⟩,h32,hr⟩:=bs hr
         try dsimp only at hr
         apply TO.lok (wn T) rfl Ul (Spec.ov (mC h32) (by decide)) (vw T) rfl rfl (by simp[qM,cl,e_f,e_i,e_ii,e_iii])
         repeat exact sd T
         refine wA T (g:=?_)
         obtain⟨⟨v36,v37⟩,h33,hr⟩:=bs hr
         try dsimp only at hr
         apply TO.lok (wn T) rfl sU (Spec.ov (cA h33) (by decide)) (vw T) rfl rfl (by simp[qM,cl,e_f,e_i,e_ii,e_iii])
         repeat exact sd T
         refine wa_ T (g:=?_)
         obtain⟨⟨v38,v39⟩,h34,hr⟩:=bs hr
         try dsimp only at hr
         apply TO.lok (wn T) rfl Ul (Spec.ov (mC h34) (by decide)) (vw T) rfl rfl (by simp[qM,cl,e_f,e_i,e_ii,e_iii])
         repeat exact sd T
         refine wa_ T (g:=?_)
         rcases ifs hr with⟨h35,hr⟩|⟨h35,hr⟩
         ·have T:=an h35 T
          refine wa_ T (g:=?_)
          cases hr
          refine⟨rfl,?_⟩
          exact wk_ T [] rfl .nil
         ·have T:=an h35 T
          refine wa_ T (g:=?_)
          rcases ifs hr with⟨h36,hr⟩|⟨h36,hr⟩
          ·have T:=an h36 T
           refine wa_ T (g:=?_)
           cases hr
           refine⟨rfl,?_⟩
           exact wk_ T [] rfl .nil
          ·have T:=an h36 T
           refine wa_ T (g:=?_)
           cases hr
           refine⟨rfl,?_⟩
           exact wk_ T [some 0,some 1] rfl (rv (.rows .nil rfl rfl) rfl)
        ·have T:=an h30 T
         refine wa_ T (g:=?_)
         cases hr
         refine⟨rfl,?_⟩
         exact wk_ T [some 0,some 1] rfl (rv (.rows .nil rfl rfl) rfl)
       ·intro e h;rcases e with _|e<;>cases h
       ·try dsimp only
        rcases v40 with _|_
        ·try dsimp only at hr
         try dsimp only
         refine wa_ T (g:=?_)
         exact lv T hr
        ·try dsimp only at hr
         try dsimp only
         refine wa_ T (g:=?_)
         obtain⟨v62,h52,hr⟩:=bs hr
         refine TX.loopE (step:=dM v1 v2 v10 v22) (x:=0) h52 (fun v41=>⟨.junk :: .junk :: .v (.int .i64 v4) :: .fptr true [.v (.int .i64 v1),.list 1 (v2.map e_f)] 0 :: .junk :: .junk :: .junk :: .lptr 0 0 0 :: .junk :: .junk :: .junk :: .junk :: .junk :: .junk :: .v (.int .i64 v41) :: .junk :: .junk :: .junk :: .junk :: .junk :: .junk :: .junk :: .junk :: .junk :: .junk :: .junk :: .junk :: .junk :: .junk :: .junk :: .junk :: .junk :: .junk :: .junk :: .junk :: .junk :: .junk :: .junk :: .junk :: .junk :: .junk :: .junk :: .junk :: .junk :: .junk :: .junk :: .junk :: .junk :: .junk :: .junk :: .junk :: .junk :: .junk :: .junk :: .junk :: .junk :: .junk :: .junk :: .junk :: .junk :: .junk :: .junk :: .junk :: .junk :: .junk :: .junk :: .junk :: .junk :: .junk :: .junk :: .junk :: .junk :: .junk :: .junk :: .junk :: .junk :: .junk :: .junk :: .junk :: .junk :: .junk :: .junk :: .junk :: .junk :: .junk :: .junk :: .junk :: .junk :: .junk :: .junk :: .junk :: .junk :: .junk :: .junk :: .junk :: .junk :: .junk :: .junk :: .junk :: .junk :: .junk :: .junk :: .junk :: .junk :: .junk :: .junk :: .junk :: .junk :: .junk :: .junk :: .junk :: .junk :: .junk :: .junk :: .junk :: .junk :: .junk :: .junk :: .junk :: .junk :: .junk :: .junk :: .junk :: .junk :: .junk :: .junk :: .junk :: .junk :: .junk :: .junk :: .junk :: .junk :: .junk :: .junk :: .junk :: .junk :: .junk :: .junk :: .junk :: .junk :: .junk :: .junk :: .junk :: .junk :: .junk :: .junk :: .junk :: .junk :: .junk :: .junk :: .junk :: .junk :: .junk :: .junk :: .junk :: .junk :: .junk :: .junk :: .junk :: .junk :: .junk :: .junk :: .junk :: .junk :: .junk :: .junk :: .junk :: .junk :: .junk :: .junk :: .junk :: .junk :: .junk :: .junk :: .junk :: .junk :: .junk :: .junk :: .junk :: .junk :: .junk :: .junk :: .junk :: .junk :: .junk :: .junk :: .junk :: .junk :: .junk :: .junk :: .junk :: .junk :: .junk :: .junk :: .junk :: .junk :: .junk :: .junk :: .junk :: .junk :: .junk :: .junk :: .junk :: .junk :: .junk :: .junk :: .junk :: .junk :: .junk :: .junk :: .junk :: .junk::[],[.var [.v (.int .i64 v10),.lsl 1 0 v22.length],.rows 1 (v22.map e_f)]⟩) (fun e=>match e with|(.inl _)=>(.ret,⟨.junk :: .junk :: .junk :: .junk :: .junk :: .junk :: .v (.bool false) :: .junk :: .junk :: .junk :: .junk :: .junk :: .junk :: .junk :: .junk :: .junk :: .junk :: .junk :: .junk :: .junk :: .junk :: .junk :: .junk :: .junk :: .junk :: .junk :: .junk :: .junk :: .junk :: .junk :: .junk :: .junk :: .junk :: .junk :: .junk :: .junk :: .junk :: .junk :: .junk :: .junk :: .junk :: .junk :: .junk :: .junk :: .junk :: .junk :: .junk :: .junk :: .junk :: .junk :: .junk :: .junk :: .junk :: .junk :: .junk :: .junk :: .junk :: .junk :: .junk :: .junk :: .junk :: .junk :: .junk :: .junk :: .junk :: .junk :: .junk :: .junk :: .junk :: .junk :: .junk :: .junk :: .junk :: .junk :: .junk :: .junk :: .junk :: .junk :: .junk :: .junk :: .junk :: .junk :: .junk :: .junk :: .junk :: .junk :: .junk :: .junk :: .junk :: .junk :: .junk :: .junk :: .junk :: .junk :: .junk :: .junk :: .junk :: .junk :: .junk :: .junk :: .junk :: .junk :: .junk :: .junk :: .junk :: .junk :: .junk :: .junk :: .junk :: .junk :: .junk :: .junk :: .junk :: .junk :: .junk :: .junk :: .junk :: .junk :: .junk :: .junk :: .junk :: .junk :: .junk :: .junk :: .junk :: .junk :: .junk :: .junk :: .junk :: .junk :: .junk :: .junk :: .junk :: .junk :: .junk :: .junk :: .junk :: .junk :: .junk :: .junk :: .junk :: .junk :: .junk :: .junk :: .junk :: .junk :: .junk :: .junk :: .junk :: .junk :: .junk :: .junk :: .junk :: .junk :: .junk :: .junk :: .junk :: .junk :: .junk :: .junk :: .junk :: .junk :: .junk :: .junk :: .junk :: .junk :: .junk :: .junk :: .junk :: .junk :: .junk :: .junk :: .junk :: .junk :: .junk :: .junk :: .junk :: .junk :: .junk :: .junk :: .junk :: .junk :: .junk :: .junk :: .junk :: .junk :: .junk :: .junk :: .junk :: .junk :: .junk :: .junk :: .junk :: .junk :: .junk :: .junk :: .junk :: .junk :: .junk :: .junk :: .junk :: .junk :: .junk :: .junk :: .junk :: .junk :: .junk :: .junk :: .junk :: .junk :: .junk :: .junk::[],[]⟩)|(.inr _)=>(.exit 4,⟨.junk :: .junk :: .v (.int .i64 v4) :: .fptr true [.v (.int .i64 v1),.list 1 (v2.map e_f)] 0 :: .junk :: .junk :: .junk :: .lptr 0 0 0 :: .junk :: .junk :: .junk :: .junk :: .junk :: .junk :: .junk :: .junk :: .junk :: .junk :: .junk :: .junk :: .junk :: .junk :: .junk :: .junk :: .junk :: .junk :: .junk :: .junk :: .junk :: .junk :: .junk :: .junk :: .junk :: .junk :: .junk :: .junk :: .junk :: .junk :: .junk :: .junk :: .junk :: .junk :: .junk :: .junk :: .junk :: .junk :: .junk :: .junk :: .junk :: .junk :: .junk :: .junk :: .junk :: .junk :: .junk :: .junk :: .junk :: .junk :: .junk :: .junk :: .junk :: .junk :: .junk :: .junk :: .junk :: .junk :: .junk :: .junk :: .junk :: .junk :: .junk :: .junk :: .junk :: .junk :: .junk :: .junk :: .junk :: .junk :: .junk :: .junk :: .junk :: .junk :: .junk :: .junk :: .junk :: .junk :: .junk :: .junk :: .junk :: .junk :: .junk :: .junk :: .junk :: .junk :: .junk :: .junk :: .junk :: .junk :: .junk :: .junk :: .junk :: .junk :: .junk :: .junk :: .junk :: .junk :: .junk :: .junk :: .junk :: .junk :: .junk :: .junk :: .junk :: .junk :: .junk :: .junk :: .junk :: .junk :: .junk :: .junk :: .junk :: .junk :: .junk :: .junk :: .junk :: .junk :: .junk :: .junk :: .junk :: .junk :: .junk :: .junk :: .junk :: .junk :: .junk :: .junk :: .junk :: .junk :: .junk :: .junk :: .junk :: .junk :: .junk :: .junk :: .junk :: .junk :: .junk :: .junk :: .junk :: .junk :: .junk :: .junk :: .junk :: .junk :: .junk :: .junk :: .junk :: .junk :: .junk :: .junk :: .junk :: .junk :: .junk :: .junk :: .junk :: .junk :: .junk :: .junk :: .junk :: .junk :: .junk :: .junk :: .junk :: .junk :: .junk :: .junk :: .junk :: .junk :: .junk :: .junk :: .junk :: .junk :: .junk :: .junk :: .junk :: .junk :: .junk :: .junk :: .junk :: .junk :: .junk :: .junk :: .junk :: .junk :: .junk :: .junk :: .junk :: .junk :: .junk :: .junk :: .junk :: .junk :: .junk :: .junk :: .junk :: .junk :: .junk :: .junk :: .junk :: .junk :: .junk :: .junk::[],[.var [.v (.int .i64 v10),.lsl 1 0 v22.length],.rows 1 (v22.map e_f)]⟩)) ?_ ?_ ?_ ?_
         ·rintro v41 v0 hr
          dsimp only[dM] at hr
          try dsimp only
          refine wa_ T (g:=?_)
          rcases ifs hr with⟨h45,hr⟩|⟨h45,hr⟩
          ·have T:=an h45 T
           refine wA T (g:=?_)
           obtain⟨⟨v52,v53⟩,h46,hr⟩:=bs hr
           try dsimp only at hr
           apply TO.cal (wn T) rfl sU (Spec.ov (cA h46) (by decide)) rfl rfl rfl
           repeat exact sd T
           refine wa_ T (g:=?_)
           obtain⟨⟨v54,v55,v56⟩,h47,hr⟩:=bs hr
           try dsimp only at hr
           apply TO.lok (wn T) rfl Sq (Spec.ov (pK h47) (by decide)) (vw T) rfl rfl (by simp[qM,cl,e_f,e_i,e_ii,e_iii])
           repeat exact sd T
           refine wA T (g:=?_)
           obtain⟨⟨v57,v58⟩,h48,hr⟩:=bs hr
           try dsimp only at hr
           apply TO.lok (wn T) rfl sU (Spec.ov (cA h48) (by decide)) (vw T) rfl rfl (by simp[qM,cl,e_f,e_i,e_ii,e_iii])
           repeat exact sd T
           refine wa_ T (g:=?_)
           obtain⟨⟨v59,v60,v61⟩,h49,hr⟩:=bs hr
           try dsimp only at hr
           apply TO.lok (wn T) rfl Sq (Spec.ov (pK h49) (by decide)) (vw T) rfl rfl (by simp[qM,cl,e_f,e_i,e_ii,e_iii])
           repeat exact sd T
           refine wa_ T (g:=?_)
           rcases ifs hr with⟨h50,hr⟩|⟨h50,hr⟩
           ·have T:=an h50 T
            refine wa_ T (g:=?_)
            cases hr
            refine⟨rfl,?_⟩
            exact wk_ T [] rfl .nil
           ·have T:=an h50 T
            refine wA T (g:=?_)
            apply TO.pop1 (wn T) (Ra (X:=⟨[.int .i64 (v54),.int .i64 (v55)]⟩) (Y:=⟨[.int .i64 (v59),.int .i64 (v60)]⟩) rfl rfl rfl rfl rfl rfl rfl eqg30 eqs30 rfl)
            repeat exact sd T
            refine wa_ T (g:=?_)
            rcases ifs hr with⟨h51,hr⟩|⟨h51,hr⟩
            ·have T:=an h51 T
             refine wa_ T (g:=?_)
             cases hr
             refine⟨rfl,?_⟩
             exact wk_ T [some 0,some 1] rfl (rv (.rows .nil rfl rfl) rfl)
            ·have T:=an h51 T
             refine wa_ T (g:=?_)
             cases hr
             refine⟨rfl,?_⟩
             exact wk_ T [] rfl .nil
          ·have T:=an h45 T
           refine wa_ T (g:=?_)
           cases hr
           refine⟨rfl,?_⟩
           exact wk_ T [some 0,some 1] rfl (rv (.rows .nil rfl rfl) rfl)
         ·intro e h;rcases e with _|e<;>cases h
         ·try dsimp only
          rcases v62 with _|_
          ·try dsimp only at hr
           try dsimp only
           refine wa_ T (g:=?_)
           exact lv T hr
          ·try dsimp only at hr
           try dsimp only
           repeat (first|(with_reducible first|refine mv ?_|refine m12 rfl ?_|refine TO.nil ?_)|((with_reducible first|apply TO.ld);(repeat (focus (show _=_;first|exact k1 rfl|exact k2 rfl|(simp only[zz,y59,e_f,Nat.reduceAdd,Nat.reduceMul,Nat.reduceLeDiff,Nat.reduceEqDiff,tload,fB,dW,List.getElem?_map,h2,h4,h6,h8]<;>exact rfl)|exact rfl)));(with_reducible apply TO.here))|((with_reducible apply TX.region);(focus (simp only[zl]<;>exact rfl));(focus rfl);(try dsimp only))|with_reducible refine TD.nil ?_|((with_reducible first|apply TD.ld|apply TD.bld|apply TD.al|apply TD.sv);(repeat (focus (show _=_;first|exact k1 rfl|exact k2 rfl|(simp only[zz,y59,e_f,Nat.reduceAdd,Nat.reduceMul,Nat.reduceLeDiff,Nat.reduceEqDiff,tload,fB,dW,List.getElem?_map,tbuild,tfill,h2,h4,h6,h8]<;>exact rfl)|exact rfl)));(with_reducible refine TD.here ?_))|((with_reducible apply TD.ldF);(focus decide +kernel);(repeat (focus (show _=_;first|exact k1 rfl|exact k2 rfl|(simp only[zz,y59,e_f,Nat.reduceAdd,Nat.reduceMul,Nat.reduceLeDiff,Nat.reduceEqDiff,tload,fB,dW,List.getElem?_map,tbuild,tfill,h2,h4,h6,h8]<;>exact rfl)|exact rfl)));(with_reducible refine TD.here ?_))|((with_reducible apply TX.drawn);(focus decide +kernel);(focus (simp only[zl]<;>exact rfl));(focus exact rfl);(try dsimp only))|fail)
           obtain⟨⟨v63,v64,v65,v66⟩,h53,hr⟩:=bs hr
           try dsimp only at hr
           apply TO.cal (wn T) rfl Es (Spec.ov (kX h53) (by decide)) rfl rfl rfl
           repeat exact sd T
           refine wa_ T (g:=?_)
           obtain⟨⟨v67,v68,v69⟩,h54,hr⟩:=bs hr
           try dsimp only at hr
           apply TO.lok (wn T) rfl Ue (Spec.ov (nV h54) (by decide)) (vw T) rfl rfl (by simp[qM,cl,e_f,e_i,e_ii,e_iii])
           repeat exact sd T
           refine wA T (g:=?_)
           obtain⟨⟨v70,v71,v72,v73⟩,h55,hr⟩:=bs hr
           try dsimp only at hr
           apply TO.lok (wn T) rfl Es (Spec.ov (kX h55) (by decide)) (vw T) rfl rfl (by simp[qM,cl,e_f,e_i,e_ii,e_iii])
           repeat exact sd T
           refine wa_ T (g:=?_)
           obtain⟨⟨v74,v75,v76⟩,h56,hr⟩:=bs hr
           try dsimp only at hr
           apply TO.lok (wn T) rfl Ue (Spec.ov (nV h56) (by decide)) (vw T) rfl rfl (by simp[qM,cl,e_f,e_i,e_ii,e_iii])
           repeat exact sd T
           refine wA T (g:=?_)
           obtain⟨⟨v77,v78⟩,h57,hr⟩:=bs hr
           try dsimp only at hr
           apply TO.cal (wn T) rfl sU (Spec.ov (cA h57) (by decide)) rfl rfl rfl
           repeat exact sd T
           refine wa_ T (g:=?_)
           obtain⟨⟨v79,v80,v81⟩,h58,hr⟩:=bs hr
           try dsimp only at hr
           apply TO.lok (wn T) rfl Sg (Spec.ov (lY h58) (by decide)) (vw T) rfl rfl (by simp[qM,cl,e_f,e_i,e_ii,e_iii])
           repeat exact sd T
           refine wA T (g:=?_)
           obtain⟨⟨v82,v83⟩,h59,hr⟩:=bs hr
           try dsimp only at hr
           apply TO.lok (wn T) rfl sU (Spec.ov (cA h59) (by decide)) (vw T) rfl rfl (by simp[qM,cl,e_f,e_i,e_ii,e_iii])
           repeat exact sd T
           refine wa_ T (g:=?_)
           obtain⟨⟨v84,v85,v86⟩,h60,hr⟩:=bs hr
           try dsimp only at hr
           apply TO.lok (wn T) rfl Sg (Spec.ov (lY h60) (by decide)) (vw T) rfl rfl (by simp[qM,cl,e_f,e_i,e_ii,e_iii])
           repeat exact sd T
           refine wA T (g:=?_)
           obtain⟨⟨v87,v88,v89,v90⟩,h61,hr⟩:=bs hr
           try dsimp only at hr
           apply TO.cal (wn T) rfl Es (Spec.ov (kX h61) (by decide)) rfl rfl rfl
           repeat exact sd T
           refine wa_ T (g:=?_)
           obtain⟨⟨v91,v92,v93⟩,h62,hr⟩:=bs hr
           try dsimp only at hr
           apply TO.lok (wn T) rfl Tr (Spec.ov (oN h62) (by decide)) (vw T) rfl rfl (by simp[qM,cl,e_f,e_i,e_ii,e_iii])
           repeat exact sd T
           refine wA T (g:=?_)
           obtain⟨⟨v94,v95,v96,v97⟩,h63,hr⟩:=bs hr
           try dsimp only at hr
           apply TO.lok (wn T) rfl Es (Spec.ov (kX h63) (by decide)) (vw T) rfl rfl (by simp[qM,cl,e_f,e_i,e_ii,e_iii])
           repeat exact sd T
           refine wa_ T (g:=?_)
           obtain⟨⟨v98,v99,v100⟩,h64,hr⟩:=bs hr
           try dsimp only at hr
           apply TO.lok (wn T) rfl Tr (Spec.ov (oN h64) (by decide)) (vw T) rfl rfl (by simp[qM,cl,e_f,e_i,e_ii,e_iii])
           repeat exact sd T
           refine wa_ T (g:=?_)
           rcases ifs hr with⟨h65,hr⟩|⟨h65,hr⟩
           ·have T:=an h65 T
            refine wA T (g:=?_)
            apply TO.pop1 (wn T) (Ak (X:=⟨[.int .i64 (v67),.int .i64 (v68)]⟩) (Y:=⟨[.int .i64 (v74),.int .i64 (v75)]⟩) rfl rfl rfl rfl rfl rfl rfl eqg30 eqs30 rfl)
            repeat exact sd T
            refine wa_ T (g:=?_)
            rcases ifs hr with⟨h66,hr⟩|⟨h66,hr⟩
            ·have T:=an h66 T
             refine wa_ T (g:=?_)
             rcases ifs hr with⟨h67,hr⟩|⟨h67,hr⟩
             ·have T:=an h67 T
              refine wA T (g:=?_)
              apply TO.pop1 (wn T) (Ak (X:=⟨[.int .i64 (v79),.int .i64 (v80)]⟩) (Y:=⟨[.int .i64 (v84),.int .i64 (v85)]⟩) rfl rfl rfl rfl rfl rfl rfl eqg50 eqs50 rfl)
              repeat exact sd T
              refine wa_ T (g:=?_)
              rcases ifs hr with⟨h68,hr⟩|⟨h68,hr⟩
              ·have T:=an h68 T
               refine wa_ T (g:=?_)
               rcases ifs hr with⟨h69,hr⟩|⟨h69,hr⟩
               ·have T:=an h69 T
                refine wA T (g:=?_)
                apply TO.pop1 (wn T) (Ak (X:=⟨[.int .i64 (v91),.int .i64 (v92)]⟩) (Y:=⟨[.int .i64 (v98),.int .i64 (v99)]⟩) rfl rfl rfl rfl rfl rfl rfl eqg30 eqs30 rfl)
                repeat exact sd T
                refine wa_ T (g:=?_)
                exact lv T hr
               ·have T:=an h69 T
                refine wa_ T (g:=?_)
                exact lv T hr
              ·have T:=an h68 T
               refine wa_ T (g:=?_)
               exact lv T hr
             ·have T:=an h67 T
              refine wa_ T (g:=?_)
              exact lv T hr
            ·have T:=an h66 T
             refine wa_ T (g:=?_)
             exact lv T hr
           ·have T:=an h65 T
            refine wa_ T (g:=?_)
            exact lv T hr
         ·try dsimp only
          exact wk_ T [some 0,some 1] rfl (rv (.rows .nil rfl rfl) rfl)
       ·try dsimp only
        exact wk_ T [some 0,some 1] rfl (rv (.rows .nil rfl rfl) rfl)
     ·try dsimp only
      exact wk_ T [some 1,some 0] rfl (rv (.rows .nil rfl rfl) rfl)
   ·have T:=an h6 T
    refine wa_ T (g:=?_)
    exact lv T hr
 ·have T:=an h2 T
  refine wa_ T (g:=?_)
  exact lv T hr
end Go.Rex
