/- Proofs that the program's functions do what these plain functions say. -/
import Derived.Test.YtjhneebncpmneaaGreatDoorGB
import Derived.Test.YtjhneebncpmneaaGreatDoorS
import Derived.Test.YtjhneebncpmneaaGreatDoorG1
import Derived.Test.YtjhneebncpmneaaGreatDoorCZ
set_option linter.unusedSimpArgs false
set_option linter.unusedVariables false
set_option linter.defProp false
namespace Go.Rex
open Go.Proofs
open Go Go.Rex Go.RowKit
set_option maxRecDepth 100000
set_option maxHeartbeats 1000000
def y54:=an @un195 <| @un3
theorem sG{v1:Int}{v2:Int}{v3:Int}{v4:Int}{v5:Int}(hr:jM v1 v2 v3=some (v4,v5)):Spec (lim Tryz.prog) 153 [.v (.int .u64 v1),.v (.int .u64 v2),.v (.int .u64 v3)] ⟨[.tuple [.v (.int .u64 v4),.v (.int .u64 v5)]],[]⟩:=by
 unfold jM at hr
 have T:=y54
 apply Spec.fn Tryz.func153 rfl
 focus (simp[Tryz.f153]<;>exact rfl)
 focus
  refine wa_ T (g:=?_)
  rcases ifs hr with⟨h1,hr⟩|⟨h1,hr⟩
  ·cases hr
  ·have T:=an h1 T
   refine wa_ T (g:=?_)
   rcases ifs hr with⟨h2,hr⟩|⟨h2,hr⟩
   ·cases hr
   ·have T:=an h2 T
    refine wa_ T (g:=?_)
    rcases ifs hr with⟨h3,hr⟩|⟨h3,hr⟩
    ·have T:=an h3 T
     refine wa_ T (g:=?_)
     by_cases h4:v3=0
     ·rw[if_pos h4] at hr
      cases hr
     ·rw[if_neg h4] at hr
      have T:=an h4 T
      refine wa_ T (g:=?_)
      cases hr
      refine⟨.inr rfl,_,(ry T),?_⟩
      exact wk_ T [] rfl .nil
    ·have T:=an h3 T
     refine wa_ T (g:=?_)
     obtain⟨v6,h5,hr⟩:=bs hr
     apply TO.cal (wn T) rfl Vk (nG h5) rfl rfl rfl
     repeat exact sd T
     refine wa_ T (g:=?_)
     apply TO.pop1 (wn T) (bT un3 un195 rfl)
     repeat exact sd T
     refine wa_ T (g:=?_)
     obtain⟨v7,h6,hr⟩:=bs hr
     apply TO.pop1 (wn T) (dF rfl rfl (by decide) (h6))
     repeat exact sd T
     refine wa_ T (g:=?_)
     obtain⟨v8,h7,hr⟩:=bs hr
     apply TO.pop1 (wn T) (dF rfl rfl (by decide) (h7))
     repeat exact sd T
     refine wa_ T (g:=?_)
     apply TO.pop1 (wn T) (oN rfl rfl (by decide))
     repeat exact sd T
     refine wa_ T (g:=?_)
     obtain⟨v9,h8,hr⟩:=bs hr
     apply TO.pop1 (wn T) (dF rfl rfl (by decide) (h8))
     repeat exact sd T
     refine wa_ T (g:=?_)
     obtain⟨v10,h9,hr⟩:=bs hr
     apply TO.pop1 (wn T) (dF rfl rfl (by decide) (h9))
     repeat exact sd T
     refine wa_ T (g:=?_)
     apply TO.pop1 (wn T) (oN rfl rfl (by decide))
     repeat exact sd T
     refine wa_ T (g:=?_)
     obtain⟨v11,h10,hr⟩:=bs hr
     apply TO.pop1 (wn T) (dF rfl rfl (by decide) (h10))
     repeat exact sd T
     refine wa_ T (g:=?_)
     obtain⟨v12,h11,hr⟩:=bs hr
     apply TO.pop1 (wn T) (dF rfl rfl (by decide) (h11))
     repeat exact sd T
     refine wa_ T (g:=?_)
     apply TO.pop1 (wn T) (oN rfl rfl (by decide))
     repeat exact sd T
     refine wa_ T (g:=?_)
     by_cases h12:v8=0
     ·rw[if_pos h12] at hr
      cases hr
     ·rw[if_neg h12] at hr
      have T:=an h12 T
      refine wa_ T (g:=?_)
      obtain⟨v16,h21,hr⟩:=bs hr
      refine TX.loopE (step:=dA v7 v8 v12) (x:=((IntKind.u64.wrap ((gW .or .u64 v9 v10).tdiv v8)),(IntKind.u64.wrap ((gW .or .u64 v9 v10)-(IntKind.u64.wrap ((IntKind.u64.wrap ((gW .or .u64 v9 v10).tdiv v8))*v8)))))) h21 (fun (v13,v14)=>⟨.Z::.Z::.v (.int .u64 v7)::.Z::.Z::.Z::.Z::.Z::.v (.int .u64 (IntKind.u64.wrap v6))::.v (.int .u64 v8)::.v (.int .u64 (gW .and .u64 v7 4294967295))::.v (.int .u64 (gW .or .u64 v9 v10))::.Z::.v (.int .u64 v12)::.v (.int .u64 (gW .and .u64 v11 4294967295))::.v (.int .u64 v13)::.v (.int .u64 v14)::.Z::.Z::.Z::.Z::.Z::.Z::.Z::.Z::.Z::.Z::.Z::.Z::.Z::.Z::.Z::.Z::.Z::.Z::.Z::.Z::.Z::.Z::.Z::.Z::.Z::.Z::.Z::.Z::.Z::.Z::.Z::.Z::.Z::.Z::.Z::.Z::.Z::.Z::.Z::.Z::.Z::.Z::.Z::.Z::.Z::.Z::.Z::.Z::.Z::.Z::.Z::.Z::.Z::.Z::.Z::.Z::.Z::.Z::.Z::.Z::.Z::.Z::.Z::.Z::.Z::.Z::.Z::.Z::.Z::.Z::.Z::.Z::.Z::.Z::.Z::.Z::.Z::.Z::.Z::.Z::.Z::.Z::.Z::.Z::.Z::.Z::.Z::.Z::.Z::.Z::.Z::.Z::.Z::.Z::.Z::.Z::.Z::.Z::.Z::.Z::.Z::.Z::.Z::.Z::.Z::.Z::.Z::.Z::.Z::.Z::.Z::.Z::.Z::.Z::.Z::.Z::.Z::.Z::[],[]⟩) (fun v15=>(.exit 0,⟨.Z::.Z::.v (.int .u64 v7)::.Z::.Z::.Z::.Z::.Z::.v (.int .u64 (IntKind.u64.wrap v6))::.v (.int .u64 v8)::.v (.int .u64 (gW .and .u64 v7 4294967295))::.v (.int .u64 (gW .or .u64 v9 v10))::.Z::.v (.int .u64 v12)::.v (.int .u64 (gW .and .u64 v11 4294967295))::.v (.int .u64 v15)::.Z::.Z::.Z::.Z::.Z::.Z::.Z::.Z::.Z::.Z::.Z::.Z::.Z::.Z::.Z::.Z::.Z::.Z::.Z::.Z::.Z::.Z::.Z::.Z::.Z::.Z::.Z::.Z::.Z::.Z::.Z::.Z::.Z::.Z::.Z::.Z::.Z::.Z::.Z::.Z::.Z::.Z::.Z::.Z::.Z::.Z::.Z::.Z::.Z::.Z::.Z::.Z::.Z::.Z::.Z::.Z::.Z::.Z::.Z::.Z::.Z::.Z::.Z::.Z::.Z::.Z::.Z::.Z::.Z::.Z::.Z::.Z::.Z::.Z::.Z::.Z::.Z::.Z::.Z::.Z::.Z::.Z::.Z::.Z::.Z::.Z::.Z::.Z::.Z::.Z::.Z::.Z::.Z::.Z::.Z::.Z::.Z::.Z::.Z::.Z::.Z::.Z::.Z::.Z::.Z::.Z::.Z::.Z::.Z::.Z::.Z::.Z::.Z::.Z::.Z::.Z::.Z::.Z::.Z::[],[]⟩)) ?_ ?_ ?_ ?_
      ·rintro⟨v13,v14⟩ v0 hr
       dsimp only[dA] at hr
       try dsimp only
       refine wa_ T (g:=?_)
       rcases ifs hr with⟨h17,hr⟩|⟨h17,hr⟩
       ·have T:=an h17 T
        refine wa_ T (g:=?_)
        rcases ifs hr with⟨h18,hr⟩|⟨h18,hr⟩
        ·have T:=an h18 T
         refine wa_ T (g:=?_)
         cases hr
         refine⟨rfl,?_⟩
         exact wk_ T [] rfl .nil
        ·have T:=an h18 T
         refine wa_ T (g:=?_)
         cases hr
         refine⟨rfl,?_⟩
         exact wk_ T [] rfl .nil
       ·have T:=an h17 T
        refine wa_ T (g:=?_)
        rcases ifs hr with⟨h19,hr⟩|⟨h19,hr⟩
        ·have T:=an h19 T
         refine wa_ T (g:=?_)
         rcases ifs hr with⟨h20,hr⟩|⟨h20,hr⟩
         ·have T:=an h20 T
          refine wa_ T (g:=?_)
          cases hr
          refine⟨rfl,?_⟩
          exact wk_ T [] rfl .nil
         ·have T:=an h20 T
          refine wa_ T (g:=?_)
          cases hr
          refine⟨rfl,?_⟩
          exact wk_ T [] rfl .nil
        ·have T:=an h19 T
         refine wa_ T (g:=?_)
         cases hr
         refine⟨rfl,?_⟩
         exact wk_ T [] rfl .nil
      ·intro e h;cases h
      ·try dsimp only
       refine wa_ T (g:=?_)
       obtain⟨v20,h30,hr⟩:=bs hr
       refine TX.loopE (step:=dC v7 v8 v11) (x:=((IntKind.u64.wrap ((IntKind.u64.wrap ((IntKind.u64.wrap ((IntKind.u64.wrap ((gW .or .u64 v9 v10)*4294967296))+v12))-(IntKind.u64.wrap (v16*v7))))-(IntKind.u64.wrap ((IntKind.u64.wrap ((IntKind.u64.wrap ((IntKind.u64.wrap ((IntKind.u64.wrap ((gW .or .u64 v9 v10)*4294967296))+v12))-(IntKind.u64.wrap (v16*v7)))).tdiv v8))*v8)))),(IntKind.u64.wrap ((IntKind.u64.wrap ((IntKind.u64.wrap ((IntKind.u64.wrap ((gW .or .u64 v9 v10)*4294967296))+v12))-(IntKind.u64.wrap (v16*v7)))).tdiv v8)))) h30 (fun (v17,v18)=>⟨.Z::.Z::.v (.int .u64 v7)::.Z::.Z::.Z::.Z::.Z::.v (.int .u64 (IntKind.u64.wrap v6))::.v (.int .u64 v8)::.v (.int .u64 (gW .and .u64 v7 4294967295))::.Z::.Z::.Z::.v (.int .u64 (gW .and .u64 v11 4294967295))::.v (.int .u64 v16)::.v (.int .u64 v17)::.v (.int .u64 (IntKind.u64.wrap ((IntKind.u64.wrap ((IntKind.u64.wrap ((gW .or .u64 v9 v10)*4294967296))+v12))-(IntKind.u64.wrap (v16*v7)))))::.v (.int .u64 v18)::.Z::.Z::.Z::.Z::.Z::.Z::.Z::.Z::.Z::.Z::.Z::.Z::.Z::.Z::.Z::.Z::.Z::.Z::.Z::.Z::.Z::.Z::.Z::.Z::.Z::.Z::.Z::.Z::.Z::.Z::.Z::.Z::.Z::.Z::.Z::.Z::.Z::.Z::.Z::.Z::.Z::.Z::.Z::.Z::.Z::.Z::.Z::.Z::.Z::.Z::.Z::.Z::.Z::.Z::.Z::.Z::.Z::.Z::.Z::.Z::.Z::.Z::.Z::.Z::.Z::.Z::.Z::.Z::.Z::.Z::.Z::.Z::.Z::.Z::.Z::.Z::.Z::.Z::.Z::.Z::.Z::.Z::.Z::.Z::.Z::.Z::.Z::.Z::.Z::.Z::.Z::.Z::.Z::.Z::.Z::.Z::.Z::.Z::.Z::.Z::.Z::.Z::.Z::.Z::.Z::.Z::.Z::.Z::.Z::.Z::.Z::.Z::.Z::.Z::.Z::.Z::[],[]⟩) (fun v19=>(.exit 2,⟨.Z::.Z::.v (.int .u64 v7)::.Z::.Z::.Z::.Z::.Z::.v (.int .u64 (IntKind.u64.wrap v6))::.Z::.Z::.Z::.Z::.Z::.v (.int .u64 (gW .and .u64 v11 4294967295))::.v (.int .u64 v16)::.Z::.v (.int .u64 (IntKind.u64.wrap ((IntKind.u64.wrap ((IntKind.u64.wrap ((gW .or .u64 v9 v10)*4294967296))+v12))-(IntKind.u64.wrap (v16*v7)))))::.v (.int .u64 v19)::.Z::.Z::.Z::.Z::.Z::.Z::.Z::.Z::.Z::.Z::.Z::.Z::.Z::.Z::.Z::.Z::.Z::.Z::.Z::.Z::.Z::.Z::.Z::.Z::.Z::.Z::.Z::.Z::.Z::.Z::.Z::.Z::.Z::.Z::.Z::.Z::.Z::.Z::.Z::.Z::.Z::.Z::.Z::.Z::.Z::.Z::.Z::.Z::.Z::.Z::.Z::.Z::.Z::.Z::.Z::.Z::.Z::.Z::.Z::.Z::.Z::.Z::.Z::.Z::.Z::.Z::.Z::.Z::.Z::.Z::.Z::.Z::.Z::.Z::.Z::.Z::.Z::.Z::.Z::.Z::.Z::.Z::.Z::.Z::.Z::.Z::.Z::.Z::.Z::.Z::.Z::.Z::.Z::.Z::.Z::.Z::.Z::.Z::.Z::.Z::.Z::.Z::.Z::.Z::.Z::.Z::.Z::.Z::.Z::.Z::.Z::.Z::.Z::.Z::.Z::.Z::[],[]⟩)) ?_ ?_ ?_ ?_
       ·rintro⟨v17,v18⟩ v0 hr
        dsimp only[dC] at hr
        try dsimp only
        refine wa_ T (g:=?_)
        rcases ifs hr with⟨h26,hr⟩|⟨h26,hr⟩
        ·have T:=an h26 T
         refine wa_ T (g:=?_)
         rcases ifs hr with⟨h27,hr⟩|⟨h27,hr⟩
         ·have T:=an h27 T
          refine wa_ T (g:=?_)
          cases hr
          refine⟨rfl,?_⟩
          exact wk_ T [] rfl .nil
         ·have T:=an h27 T
          refine wa_ T (g:=?_)
          cases hr
          refine⟨rfl,?_⟩
          exact wk_ T [] rfl .nil
        ·have T:=an h26 T
         refine wa_ T (g:=?_)
         rcases ifs hr with⟨h28,hr⟩|⟨h28,hr⟩
         ·have T:=an h28 T
          refine wa_ T (g:=?_)
          rcases ifs hr with⟨h29,hr⟩|⟨h29,hr⟩
          ·have T:=an h29 T
           refine wa_ T (g:=?_)
           cases hr
           refine⟨rfl,?_⟩
           exact wk_ T [] rfl .nil
          ·have T:=an h29 T
           refine wa_ T (g:=?_)
           cases hr
           refine⟨rfl,?_⟩
           exact wk_ T [] rfl .nil
         ·have T:=an h28 T
          refine wa_ T (g:=?_)
          cases hr
          refine⟨rfl,?_⟩
          exact wk_ T [] rfl .nil
       ·intro e h;cases h
       ·try dsimp only
        refine wa_ T (g:=?_)
        obtain⟨v21,h31,hr⟩:=bs hr
        apply TO.pop1 (wn T) (dF rfl rfl (by decide) (h31))
        repeat exact sd T
        refine wa_ T (g:=?_)
        cases hr
        refine⟨.inr rfl,_,(ry T),?_⟩
        exact wk_ T [] rfl .nil
       ·try dsimp only
        exact wk_ T [] rfl .nil
      ·try dsimp only
       exact wk_ T [] rfl .nil
 rfl
end Go.Rex
namespace Go.Rex
open Go.Proofs
open Go Go.Rex Go.RowKit
set_option maxRecDepth 100000
set_option maxHeartbeats 200000
def y55:=an @ag122 <| an @Mx <| an @Nx <| an @un122 <| @un3
theorem mF{v1:Int}{v2:Int}{v3:Int}{v4:Int}{v5:Int}(hr:eP v1 v2 v3=some (v4,v5)):Spec (lim Tryz.prog) 135 [.agg [.v (.int .u64 v1),.v (.int .u64 v2)],.v (.int .i64 v3)] ⟨[.tuple [.v (.int .i64 v4),.v (.int .i64 v5)]],[]⟩:=by
 unfold eP at hr
 have T:=y55
 apply Spec.fn Tryz.func135 rfl
 focus (simp[Tryz.f135]<;>exact rfl)
 focus
  refine wB T (g:=?_)
  apply TO.pop1 (wn T) (bT un3 un122 rfl)
  repeat exact sd T
  refine wa_ T (g:=?_)
  obtain⟨⟨v6,v7⟩,h1,hr⟩:=bs hr
  try dsimp only at hr
  apply TO.cal (wn T) rfl Wt (sG h1) rfl rfl rfl
  repeat exact sd T
  refine wa_ T (g:=?_)
  apply TO.pop1 (wn T) (bT un122 un3 rfl)
  repeat exact sd T
  refine wa_ T (g:=?_)
  apply TO.pop1 (wn T) (bT un122 un3 rfl)
  repeat exact sd T
  refine wa_ T (g:=?_)
  rcases ifs hr with⟨h2,hr⟩|⟨h2,hr⟩
  ·have T:=an h2 T
   refine wa_ T (g:=?_)
   cases hr
   refine⟨.inr rfl,_,(ry T),?_⟩
   exact wk_ T [] rfl .nil
  ·have T:=an h2 T
   refine wa_ T (g:=?_)
   cases hr
   refine⟨.inr rfl,_,(ry T),?_⟩
   exact wk_ T [] rfl .nil
 rfl
end Go.Rex
namespace Go.Rex
open Go.Proofs
open Go Go.Rex Go.RowKit
set_option maxRecDepth 100000
set_option maxHeartbeats 1000000
def y56:=an @ag100 <| an @ag3 <| an @ag30 <| an @ag94 <| an @cs100 <| an @cs30 <| an @cs31 <| an @cs94 <| an @iK <| an @uN <| an @pU <| an @Bk <| an @mQ <| an @mW <| an @uA <| an @ok100 <| an @ok30 <| an @ok94 <| an @so149 <| an @st100 <| an @zc100 <| @zc31
theorem qD{v1:Int}{v2:(List Nat)}{v3:Int}{v4:Int}{v5:Int}{v6:Int}{v7:Int}(hr:fY v1 v2 v3 v4=some (v5,v6,v7)):Spec (lim Tryz.prog) 89 [.agg [.v (.int .i64 v1),.list 1 (v2.map e_f),.v (.int .i64 v3),.v (.int .i64 v4)]] ⟨[.tuple [.agg [.v (.int .i64 v5),.v (.int .i64 v6)],.v (.int .i64 v7)]],[]⟩:=by
 unfold fY at hr
 have T:=an y56 <| an @e_f.eq_1 <| @e_i.eq_1
 apply Spec.fn Tryz.func89 rfl
 focus (simp[Tryz.f89]<;>exact rfl)
 focus
  refine wB T (g:=?_)
  obtain⟨⟨v8,v9⟩,h1,hr⟩:=bs hr
  try dsimp only at hr
  apply TD.cal (wn T) rfl Uk (mD h1) rfl rfl rfl
  repeat exact sd T
  refine wA T (g:=?_)
  obtain⟨⟨v10,v11⟩,h2,hr⟩:=bs hr
  try dsimp only at hr
  apply TD.cal (wn T) rfl Wj (pY h2) rfl rfl rfl
  repeat exact sd T
  refine wA T (g:=?_)
  obtain⟨v12,h3,hr⟩:=bs hr
  apply TD.cal (wn T) rfl lR (bF h3) rfl rfl rfl
  repeat exact sd T
  refine wA T (g:=?_)
  obtain⟨v13,h4,hr⟩:=bs hr
  apply TD.cal (wn T) rfl lR (bF h4) rfl rfl rfl
  repeat exact sd T
  refine wa_ T (g:=?_)
  apply TD.bm e_i ([v12,v13]:List Int) (wn T) rfl (by simp only[zz,y56,e_f,e_i,Nat.reduceAdd,Nat.reduceMul,Nat.reduceLeDiff,Nat.reduceEqDiff,tslice,tparts];exact rfl) rfl
  repeat exact sd T
  refine wa_ T (g:=?_)
  obtain⟨v14,h5,hr⟩:=bs hr
  apply TD.cal (wn T) rfl oS (bG h5) rfl rfl rfl
  repeat exact sd T
  refine wa_ T (g:=?_)
  rcases ifs hr with⟨h6,hr⟩|⟨h6,hr⟩
  ·have T:=an h6 T
   refine wa_ T (g:=?_)
   cases hr
   refine⟨.inr rfl,_,(ry T),?_⟩
   exact wk_ T [] rfl .nil
  ·have T:=an h6 T
   refine wA T (g:=?_)
   obtain⟨⟨v15,v16⟩,h7,hr⟩:=bs hr
   try dsimp only at hr
   apply TD.cal (wn T) rfl pM (cW h7) rfl rfl rfl
   repeat exact sd T
   refine wA T (g:=?_)
   obtain⟨⟨v17,v18⟩,h8,hr⟩:=bs hr
   try dsimp only at hr
   apply TD.cal (wn T) rfl Np (mF h8) rfl rfl rfl
   repeat exact sd T
   refine wA T (g:=?_)
   obtain⟨⟨v19,v20⟩,h9,hr⟩:=bs hr
   try dsimp only at hr
   apply TD.cal (wn T) rfl pM (cW h9) rfl rfl rfl
   repeat exact sd T
   refine wA T (g:=?_)
   obtain⟨⟨v21,v22⟩,h10,hr⟩:=bs hr
   try dsimp only at hr
   apply TD.cal (wn T) rfl Np (mF h10) rfl rfl rfl
   repeat exact sd T
   refine wA T (g:=?_)
   obtain⟨v23,h11,hr⟩:=bs hr
   apply TO.cal (wn T) rfl pG (cB h11) rfl rfl rfl
   repeat exact sd T
   refine wA T (g:=?_)
   obtain⟨⟨v24,v25⟩,h12,hr⟩:=bs hr
   try dsimp only at hr
   apply TD.cal (wn T) rfl jW (bB h12) rfl rfl rfl
   repeat exact sd T
   refine wa_ T (g:=?_)
   obtain⟨⟨v26,v27⟩,h13,hr⟩:=bs hr
   try dsimp only at hr
   apply TD.cal (wn T) rfl Le (jG h13) rfl rfl rfl
   repeat exact sd T
   refine wa_ T (g:=?_)
   apply TD.pop1 (wn T) (Ep rfl rfl)
   repeat exact sd T
   refine wa_ T (g:=?_)
   obtain⟨⟨v28,v29⟩,h14,hr⟩:=bs hr
   try dsimp only at hr
   apply TD.cal (wn T) rfl jW (bB h14) rfl rfl rfl
   repeat exact sd T
   refine wa_ T (g:=?_)
   cases hr
   refine⟨.inr rfl,_,(ry T),?_⟩
   exact wk_ T [] rfl .nil
 rfl
end Go.Rex
namespace Go.Rex
open Go.Proofs
open Go Go.Rex Go.RowKit
set_option maxRecDepth 100000
set_option maxHeartbeats 200000
def y57:=an @ag26 <| an @ag30 <| an @ag94 <| an @cs100 <| an @cs26 <| an @cs30 <| an @cs94 <| an @iK <| an @ok100 <| an @ok26 <| an @ok30 <| an @ok94 <| an @st30 <| an @zc100 <| an @zc30 <| @zc94
theorem aP{v1:Int}{v2:(List Nat)}{v3:Int}{v4:Int}{v5:Int}{v6:Int}{v7:Int}(hr:aV v1 v2 v3 v4=some (v5,v6,v7)):Spec (lim Tryz.prog) 47 [.agg [.v (.int .i64 v1),.list 1 (v2.map e_f),.v (.int .i64 v3),.v (.int .i64 v4)]] ⟨[.tuple [.agg [.v (.int .i64 v5),.v (.int .i64 v6)],.v (.int .i64 v7)]],[]⟩:=by
 unfold aV at hr
 have T:=an y57 <| @e_f.eq_1
 apply Spec.fn Tryz.func47 rfl
 focus (simp[Tryz.f47]<;>exact rfl)
 focus
  refine wB T (g:=?_)
  obtain⟨⟨v8,v9,v10,v11,v12⟩,h1,hr⟩:=bs hr
  try dsimp only at hr
  apply TO.cal (wn T) rfl Ec (kK h1) rfl rfl rfl
  repeat exact sd T
  refine wa_ T (g:=?_)
  rcases ifs hr with⟨h2,hr⟩|⟨h2,hr⟩
  ·have T:=an h2 T
   refine wa_ T (g:=?_)
   cases hr
   refine⟨.inr rfl,_,(ry T),?_⟩
   exact wk_ T [] rfl .nil
  ·have T:=an h2 T
   refine wA T (g:=?_)
   obtain⟨⟨v13,v14,v15⟩,h3,hr⟩:=bs hr
   try dsimp only at hr
   apply TO.cal (wn T) rfl Xt (qD h3) rfl rfl rfl
   repeat exact sd T
   refine wA T (g:=?_)
   cases hr
   refine⟨.inr rfl,_,(ry T),?_⟩
   exact wk_ T [] rfl .nil
 rfl
end Go.Rex
namespace Go.Rex
open Go.Proofs
open Go Go.Rex Go.RowKit
set_option maxRecDepth 100000
end Go.Rex
namespace Go.Rex
open Go.Proofs
open Go Go.Rex Go.RowKit
set_option maxRecDepth 100000
set_option maxHeartbeats 40000000
def y58:=an @ag22 <| an @ag24 <| an @ag26 <| an @ag3 <| an @ag30 <| an @ag79 <| an @ag82 <| an @by82 <| an @cs22 <| an @cs24 <| an @cs26 <| an @cs3 <| an @cs30 <| an @cs82 <| an @uM <| an @pU <| an @Ev <| an @Bk <| an @Yc <| an @Yr <| an @ni22 <| an @ok22 <| an @ok24 <| an @ok26 <| an @ok3 <| an @ok30 <| an @ok82 <| an @so22 <| an @so79 <| an @st26 <| an @un3 <| an @un82 <| an @zc24 <| an @zc26 <| an @zc30 <| an @zc82 <| @nJ
theorem rA{v1:Int}{v2:(List Nat)}{v3:Int}{v4:Int}{v5:(List Int)}{v6:(List Int)}{v7:Int}(hr:jE v1 v2 v3 v4 v5 v6 v7=some true){Fz:Nat→Prop}{h:List Blk}{vs:List Value}(hfz:FZ Fz h)(hargs:VLs Fz h noL [.agg [.v (.int .i64 v1), .list 1 (v2.map e_f), .v (.int .i64 v3), .v (.int .i64 v4)], .agg [.list 1 (v5.map e_i), .list 1 (v6.map e_i)], .v (.int .i64 v7)] vs)
 {B lo:Nat} {D:Nat→Prop} {m:NMap} {w:World} {args':List Value} (hrel:Rel B lo D m h w) (hlo:lo≤h.length) (hargs':VRs D m vs args'):Calls Tryz.prog 10 ⟨args'⟩ w (fun e w'=>e = .returned (.bool true)∧Below w.heap.size w w'):=by
 unfold jE at hr
 have T:=an y58 <| an @e_f.eq_1 <| @e_i.eq_1
 refine Uz follows awake_true Tryz.func10 rfl (tm0:=.agg [.v (.int .i64 v1),.list 1 (v2.map e_f),.v (.int .i64 v3),.v (.int .i64 v4)]::.agg [.list 1 (v5.map e_i),.list 1 (v6.map e_i)]::.v (.int .i64 v7)::.Z::.Z::.Z::.Z::.Z::.Z::.Z::.Z::.Z::.Z::.Z::.Z::.Z::.Z::.Z::.Z::.Z::.Z::.Z::.Z::.Z::.Z::.Z::.Z::.Z::.Z::.Z::.Z::.Z::.Z::.Z::.Z::.Z::.Z::.Z::.Z::.Z::.Z::.Z::.Z::.Z::.Z::.Z::.Z::.Z::.Z::.Z::.Z::.Z::.Z::.Z::.Z::.Z::.Z::.Z::.Z::.Z::.Z::.Z::.Z::.Z::.Z::.Z::.Z::.Z::.Z::.Z::.Z::.Z::.Z::.Z::.Z::.Z::.Z::.Z::.Z::.Z::.Z::.Z::.Z::.Z::.Z::.Z::.Z::.Z::.Z::.Z::.Z::.Z::.Z::.Z::.Z::.Z::.Z::.Z::.Z::.Z::.Z::.Z::.Z::.Z::.Z::.Z::.Z::.Z::.Z::.Z::.Z::.Z::.Z::.Z::.Z::.Z::.Z::.Z::.Z::.Z::.Z::.Z::.Z::.Z::.Z::.Z::.Z::.Z::.Z::.Z::.Z::.Z::.Z::.Z::.Z::.Z::.Z::.Z::.Z::.Z::.Z::.Z::.Z::.Z::.Z::.Z::.Z::.Z::.Z::.Z::.Z::.Z::.Z::.Z::.Z::.Z::.Z::.Z::.Z::.Z::.Z::.Z::.Z::.Z::.Z::.Z::.Z::.Z::.Z::.Z::.Z::.Z::.Z::.Z::.Z::.Z::.Z::.Z::.Z::.Z::.Z::.Z::.Z::.Z::.Z::.Z::.Z::.Z::.Z::.Z::.Z::.Z::.Z::.Z::.Z::.Z::.Z::.Z::.Z::.Z::.Z::.Z::.Z::.Z::.Z::.Z::.Z::.Z::.Z::.Z::.Z::.Z::.Z::.Z::.Z::.Z::.Z::.Z::.Z::.Z::.Z::.Z::.Z::.Z::.Z::.Z::.Z::.Z::.Z::.Z::.Z::.Z::.Z::.Z::.Z::.Z::.Z::.Z::.Z::.Z::.Z::.Z::.Z::.Z::.Z::.Z::.Z::.Z::.Z::.Z::.Z::.Z::.Z::.Z::[]) (by simp[Tryz.f10]<;>exact rfl) ?_ hfz hargs hrel hlo hargs'
 refine wb_ T (g:=?_)
 apply TO.cal (wn T) rfl Ys Spec.awake rfl rfl rfl
 repeat exact sd T
 refine wa_ T (g:=?_)
 apply TO.pop1 (wn T) (fS rfl)
 repeat exact sd T
 refine wA T (g:=?_)
 obtain⟨v9,h1,hr⟩:=bs hr
 apply TO.cal (wn T) rfl Yh (Spec.ov (Am h1) (by decide)) rfl rfl rfl
 repeat exact sd T
 refine wa_ T (g:=?_)
 apply TO.pop1 (wn T) (fS rfl)
 repeat exact sd T
 refine wa_ T (g:=?_)
 rcases ifs hr with⟨h2,hr⟩|⟨h2,hr⟩
 ·have T:=an h2 T
  refine wA T (g:=?_)
  obtain⟨v10,h3,hr⟩:=bs hr
  apply TO.cal (wn T) rfl Yk (Spec.ov (uT h3) (by decide)) rfl rfl rfl
  repeat exact sd T
  refine wa_ T (g:=?_)
  rcases ifs hr with⟨h4,hr⟩|⟨h4,hr⟩
  ·have T:=an h4 T
   refine wa_ T (g:=?_)
   exact lv T hr
  ·have T:=an h4 T
   refine wC T (g:=?_)
   rcases ifs hr with⟨h5,hr⟩|⟨h5,hr⟩
   ·have T:=an h5 T
    refine wa_ T (g:=?_)
    exact lv T hr
   ·have T:=an h5 T
    refine wC T (g:=?_)
    rcases ifs hr with⟨h6,hr⟩|⟨h6,hr⟩
    ·have T:=an h6 T
     refine wa_ T (g:=?_)
     exact lv T hr
    ·have T:=an h6 T
     refine wa_ T (g:=?_)
     obtain⟨v11,h7,hr⟩:=bs hr
     apply TO.cal (wn T) rfl Zi (Spec.ov (tY h7) (by decide)) rfl rfl rfl
     repeat exact sd T
     refine wa_ T (g:=?_)
     rcases ifs hr with⟨h8,hr⟩|⟨h8,hr⟩
     ·have T:=an h8 T
      refine wa_ T (g:=?_)
      exact lv T hr
     ·have T:=an h8 T
      refine wA T (g:=?_)
      obtain⟨⟨v12,v13⟩,h9,hr⟩:=bs hr
      try dsimp only at hr
      apply TO.cal (wn T) rfl Lh (Spec.ov (jF h9) (by decide)) rfl rfl rfl
      repeat exact sd T
      refine wa_ T (g:=?_)
      obtain⟨v25,h24,hr⟩:=bs hr
      refine TX.loopE (step:=aX v3 v5) (x:=(v13,0)) h24 (fun (v14,v15)=>⟨.Z::.Z::.v (.int .i64 v7)::.fptr true [.v (.int .i64 v1),.list 1 (v2.map e_f),.v (.int .i64 v3),.v (.int .i64 v4)] 0::.fptr true [.list 1 (v5.map e_i),.list 1 (v6.map e_i)] 0::.Z::.Z::.lptr 0 0 0::.v (.int .i64 v15)::.Z::.Z::.Z::.Z::.Z::.Z::.Z::.Z::.Z::.Z::.Z::.Z::.Z::.Z::.Z::.Z::.Z::.Z::.Z::.Z::.Z::.Z::.Z::.Z::.Z::.Z::.Z::.Z::.Z::.Z::.Z::.Z::.Z::.Z::.Z::.Z::.Z::.Z::.Z::.Z::.Z::.Z::.Z::.Z::.Z::.Z::.Z::.Z::.Z::.Z::.Z::.Z::.Z::.Z::.Z::.Z::.Z::.Z::.Z::.Z::.Z::.Z::.Z::.Z::.Z::.Z::.Z::.Z::.Z::.Z::.Z::.Z::.Z::.Z::.Z::.Z::.Z::.Z::.Z::.Z::.Z::.Z::.Z::.Z::.Z::.Z::.Z::.Z::.Z::.Z::.Z::.Z::.Z::.Z::.Z::.Z::.Z::.Z::.Z::.Z::.Z::.Z::.Z::.Z::.Z::.Z::.Z::.Z::.Z::.Z::.Z::.Z::.Z::.Z::.Z::.Z::.Z::.Z::.Z::.Z::.Z::.Z::.Z::.Z::.Z::.Z::.Z::.Z::.Z::.Z::.Z::.Z::.Z::.Z::.Z::.Z::.Z::.Z::.Z::.Z::.Z::.Z::.Z::.Z::.Z::.Z::.Z::.Z::.Z::.Z::.Z::.Z::.Z::.Z::.Z::.Z::.Z::.Z::.Z::.Z::.Z::.Z::.Z::.Z::.Z::.Z::.Z::.Z::.Z::.Z::.Z::.Z::.Z::.Z::.Z::.Z::.Z::.Z::.Z::.Z::.Z::.Z::.Z::.Z::.Z::.Z::.Z::.Z::.Z::.Z::.Z::.Z::.Z::.Z::.Z::.Z::.Z::.Z::.Z::.Z::.Z::.Z::.Z::.Z::.Z::.Z::.Z::.Z::.Z::.Z::.Z::.Z::.Z::.Z::.Z::.Z::.Z::.Z::.Z::.Z::.Z::.Z::.Z::.Z::.Z::.Z::.Z::.Z::.Z::.Z::.Z::.Z::.Z::.Z::.Z::.Z::.Z::.Z::.Z::.Z::.Z::.Z::.Z::.Z::.Z::[],[.var [.v (.int .i64 v12),.lsl 1 0 v14.length],.rows 1 (v14.map e_f)]⟩) (fun e=>match e with|(.inl _)=>(.ret,⟨.Z::.Z::.Z::.Z::.Z::.Z::.v (.bool true)::.Z::.Z::.Z::.Z::.Z::.Z::.Z::.Z::.Z::.Z::.Z::.Z::.Z::.Z::.Z::.Z::.Z::.Z::.Z::.Z::.Z::.Z::.Z::.Z::.Z::.Z::.Z::.Z::.Z::.Z::.Z::.Z::.Z::.Z::.Z::.Z::.Z::.Z::.Z::.Z::.Z::.Z::.Z::.Z::.Z::.Z::.Z::.Z::.Z::.Z::.Z::.Z::.Z::.Z::.Z::.Z::.Z::.Z::.Z::.Z::.Z::.Z::.Z::.Z::.Z::.Z::.Z::.Z::.Z::.Z::.Z::.Z::.Z::.Z::.Z::.Z::.Z::.Z::.Z::.Z::.Z::.Z::.Z::.Z::.Z::.Z::.Z::.Z::.Z::.Z::.Z::.Z::.Z::.Z::.Z::.Z::.Z::.Z::.Z::.Z::.Z::.Z::.Z::.Z::.Z::.Z::.Z::.Z::.Z::.Z::.Z::.Z::.Z::.Z::.Z::.Z::.Z::.Z::.Z::.Z::.Z::.Z::.Z::.Z::.Z::.Z::.Z::.Z::.Z::.Z::.Z::.Z::.Z::.Z::.Z::.Z::.Z::.Z::.Z::.Z::.Z::.Z::.Z::.Z::.Z::.Z::.Z::.Z::.Z::.Z::.Z::.Z::.Z::.Z::.Z::.Z::.Z::.Z::.Z::.Z::.Z::.Z::.Z::.Z::.Z::.Z::.Z::.Z::.Z::.Z::.Z::.Z::.Z::.Z::.Z::.Z::.Z::.Z::.Z::.Z::.Z::.Z::.Z::.Z::.Z::.Z::.Z::.Z::.Z::.Z::.Z::.Z::.Z::.Z::.Z::.Z::.Z::.Z::.Z::.Z::.Z::.Z::.Z::.Z::.Z::.Z::.Z::.Z::.Z::.Z::.Z::.Z::.Z::.Z::.Z::.Z::.Z::.Z::.Z::.Z::.Z::.Z::.Z::.Z::.Z::.Z::.Z::.Z::.Z::.Z::.Z::.Z::.Z::.Z::.Z::.Z::.Z::.Z::.Z::.Z::.Z::.Z::.Z::.Z::.Z::.Z::.Z::[],[]⟩)|(.inr v20)=>(.exit 0,⟨.Z::.Z::.v (.int .i64 v7)::.fptr true [.v (.int .i64 v1),.list 1 (v2.map e_f),.v (.int .i64 v3),.v (.int .i64 v4)] 0::.fptr true [.list 1 (v5.map e_i),.list 1 (v6.map e_i)] 0::.Z::.Z::.lptr 0 0 0::.Z::.Z::.Z::.Z::.Z::.Z::.Z::.Z::.Z::.Z::.Z::.Z::.Z::.Z::.Z::.Z::.Z::.Z::.Z::.Z::.Z::.Z::.Z::.Z::.Z::.Z::.Z::.Z::.Z::.Z::.Z::.Z::.Z::.Z::.Z::.Z::.Z::.Z::.Z::.Z::.Z::.Z::.Z::.Z::.Z::.Z::.Z::.Z::.Z::.Z::.Z::.Z::.Z::.Z::.Z::.Z::.Z::.Z::.Z::.Z::.Z::.Z::.Z::.Z::.Z::.Z::.Z::.Z::.Z::.Z::.Z::.Z::.Z::.Z::.Z::.Z::.Z::.Z::.Z::.Z::.Z::.Z::.Z::.Z::.Z::.Z::.Z::.Z::.Z::.Z::.Z::.Z::.Z::.Z::.Z::.Z::.Z::.Z::.Z::.Z::.Z::.Z::.Z::.Z::.Z::.Z::.Z::.Z::.Z::.Z::.Z::.Z::.Z::.Z::.Z::.Z::.Z::.Z::.Z::.Z::.Z::.Z::.Z::.Z::.Z::.Z::.Z::.Z::.Z::.Z::.Z::.Z::.Z::.Z::.Z::.Z::.Z::.Z::.Z::.Z::.Z::.Z::.Z::.Z::.Z::.Z::.Z::.Z::.Z::.Z::.Z::.Z::.Z::.Z::.Z::.Z::.Z::.Z::.Z::.Z::.Z::.Z::.Z::.Z::.Z::.Z::.Z::.Z::.Z::.Z::.Z::.Z::.Z::.Z::.Z::.Z::.Z::.Z::.Z::.Z::.Z::.Z::.Z::.Z::.Z::.Z::.Z::.Z::.Z::.Z::.Z::.Z::.Z::.Z::.Z::.Z::.Z::.Z::.Z::.Z::.Z::.Z::.Z::.Z::.Z::.Z::.Z::.Z::.Z::.Z::.Z::.Z::.Z::.Z::.Z::.Z::.Z::.Z::.Z::.Z::.Z::.Z::.Z::.Z::.Z::.Z::.Z::.Z::.Z::.Z::.Z::.Z::.Z::.Z::.Z::.Z::.Z::.Z::.Z::.Z::.Z::.Z::.Z::.Z::.Z::.Z::[],[.var [.v (.int .i64 v12),.lsl 1 0 v20.length],.rows 1 (v20.map e_f)]⟩)) ?_ ?_ ?_ ?_
      ·rintro⟨v14,v15⟩ v0 hr
       dsimp only[aX] at hr
       try dsimp only
       refine wC T (g:=?_)
       rcases ifs hr with⟨h17,hr⟩|⟨h17,hr⟩
       ·have T:=an h17 T
        refine wC T (g:=?_)
        rcases ifs hr with⟨h18,hr⟩|⟨h18,hr⟩
        ·have T:=an h18 T
         refine wA T (g:=?_)
         obtain⟨v21,h19,hr⟩:=bs hr
         have T:=an (gx e_i h19) T
         refine wA T (g:=?_)
         apply TD.pop1 (wn T) (zT rfl)
         repeat exact sd T
         refine wA T (g:=?_)
         obtain⟨v22,h20,hr⟩:=bs hr
         apply TD.cal (wn T) rfl xD (Spec.ov (gF h20) (by decide)) rfl rfl rfl
         repeat exact sd T
         refine wa_ T (g:=?_)
         apply TD.pop1 (wn T) (fS rfl)
         repeat exact sd T
         refine wa_ T (g:=?_)
         rcases ifs hr with⟨h21,hr⟩|⟨h21,hr⟩
         ·have T:=an h21 T
          refine wA T (g:=?_)
          obtain⟨v23,h22,hr⟩:=bs hr
          have h22m:=qF (f:=e_f) h22
          have h22l:=nA h22
          try simp only[List.length_set] at h22l
          have h22a:=pR h22
          have T:=an h22m T
          have T:=an h22l T
          have T:=an h22a T
          refine wA T (g:=?_)
          apply TD.pop1 (wn T) (qA un3 un82 rfl)
          repeat exact sd T
          refine wa_ T (g:=?_)
          obtain⟨v24,h23,hr⟩:=bs hr
          apply TD.pop1 (wn T) (Bj rfl rfl (by decide) (h23))
          repeat exact sd T
          refine wa_ T (g:=?_)
          apply TD.sr e_f v14 v23 v24 h22a (wn T) rfl rfl rfl rfl rfl ok82 (by rw[cs82];rfl) rfl rfl rfl rfl rfl
          repeat exact sd T
          refine wa_ T (g:=?_)
          cases hr
          refine⟨rfl,?_⟩
          exact wk_ T [some 0,some 1] rfl (rv (.rows .nil rfl rfl) rfl)
         ·have T:=an h21 T
          refine wa_ T (g:=?_)
          cases hr
          refine⟨rfl,?_⟩
          exact wk_ T [] rfl .nil
        ·have T:=an h18 T
         refine wa_ T (g:=?_)
         cases hr
         refine⟨rfl,?_⟩
         exact wk_ T [some 0,some 1] rfl (rv (.rows .nil rfl rfl) rfl)
       ·have T:=an h17 T
        refine wa_ T (g:=?_)
        cases hr
        refine⟨rfl,?_⟩
        exact wk_ T [some 0,some 1] rfl (rv (.rows .nil rfl rfl) rfl)
      ·intro e h;rcases e with _|e<;>cases h
      ·try dsimp only
       rcases v25 with _|v26
       ·try dsimp only at hr
        try dsimp only
        refine wa_ T (g:=?_)
        exact lv T hr
       ·try dsimp only at hr
        try dsimp only
        refine wa_ T (g:=?_)
        obtain⟨v38,h35,hr⟩:=bs hr
        refine TX.loopE (step:=bK v6) (x:=(v26,0,0)) h35 (fun (v27,v28,v29)=>⟨.Z::.Z::.v (.int .i64 v7)::.fptr true [.v (.int .i64 v1),.list 1 (v2.map e_f),.v (.int .i64 v3),.v (.int .i64 v4)] 0::.fptr true [.list 1 (v5.map e_i),.list 1 (v6.map e_i)] 0::.Z::.Z::.lptr 0 0 0::.Z::.v (.int .i64 v28)::.v (.int .i64 v29)::.Z::.Z::.Z::.Z::.Z::.Z::.Z::.Z::.Z::.Z::.Z::.Z::.Z::.Z::.Z::.Z::.Z::.Z::.Z::.Z::.Z::.Z::.Z::.Z::.Z::.Z::.Z::.Z::.Z::.Z::.Z::.Z::.Z::.Z::.Z::.Z::.Z::.Z::.Z::.Z::.Z::.Z::.Z::.Z::.Z::.Z::.Z::.Z::.Z::.Z::.Z::.Z::.Z::.Z::.Z::.Z::.Z::.Z::.Z::.Z::.Z::.Z::.Z::.Z::.Z::.Z::.Z::.Z::.Z::.Z::.Z::.Z::.Z::.Z::.Z::.Z::.Z::.Z::.Z::.Z::.Z::.Z::.Z::.Z::.Z::.Z::.Z::.Z::.Z::.Z::.Z::.Z::.Z::.Z::.Z::.Z::.Z::.Z::.Z::.Z::.Z::.Z::.Z::.Z::.Z::.Z::.Z::.Z::.Z::.Z::.Z::.Z::.Z::.Z::.Z::.Z::.Z::.Z::.Z::.Z::.Z::.Z::.Z::.Z::.Z::.Z::.Z::.Z::.Z::.Z::.Z::.Z::.Z::.Z::.Z::.Z::.Z::.Z::.Z::.Z::.Z::.Z::.Z::.Z::.Z::.Z::.Z::.Z::.Z::.Z::.Z::.Z::.Z::.Z::.Z::.Z::.Z::.Z::.Z::.Z::.Z::.Z::.Z::.Z::.Z::.Z::.Z::.Z::.Z::.Z::.Z::.Z::.Z::.Z::.Z::.Z::.Z::.Z::.Z::.Z::.Z::.Z::.Z::.Z::.Z::.Z::.Z::.Z::.Z::.Z::.Z::.Z::.Z::.Z::.Z::.Z::.Z::.Z::.Z::.Z::.Z::.Z::.Z::.Z::.Z::.Z::.Z::.Z::.Z::.Z::.Z::.Z::.Z::.Z::.Z::.Z::.Z::.Z::.Z::.Z::.Z::.Z::.Z::.Z::.Z::.Z::.Z::.Z::.Z::.Z::.Z::.Z::.Z::.Z::.Z::.Z::.Z::.Z::.Z::.Z::.Z::.Z::.Z::[],[.var [.v (.int .i64 v12),.lsl 1 0 v27.length],.rows 1 (v27.map e_f)]⟩) (fun e=>match e with|(.inl _)=>(.ret,⟨.Z::.Z::.Z::.Z::.Z::.Z::.v (.bool true)::.Z::.Z::.Z::.Z::.Z::.Z::.Z::.Z::.Z::.Z::.Z::.Z::.Z::.Z::.Z::.Z::.Z::.Z::.Z::.Z::.Z::.Z::.Z::.Z::.Z::.Z::.Z::.Z::.Z::.Z::.Z::.Z::.Z::.Z::.Z::.Z::.Z::.Z::.Z::.Z::.Z::.Z::.Z::.Z::.Z::.Z::.Z::.Z::.Z::.Z::.Z::.Z::.Z::.Z::.Z::.Z::.Z::.Z::.Z::.Z::.Z::.Z::.Z::.Z::.Z::.Z::.Z::.Z::.Z::.Z::.Z::.Z::.Z::.Z::.Z::.Z::.Z::.Z::.Z::.Z::.Z::.Z::.Z::.Z::.Z::.Z::.Z::.Z::.Z::.Z::.Z::.Z::.Z::.Z::.Z::.Z::.Z::.Z::.Z::.Z::.Z::.Z::.Z::.Z::.Z::.Z::.Z::.Z::.Z::.Z::.Z::.Z::.Z::.Z::.Z::.Z::.Z::.Z::.Z::.Z::.Z::.Z::.Z::.Z::.Z::.Z::.Z::.Z::.Z::.Z::.Z::.Z::.Z::.Z::.Z::.Z::.Z::.Z::.Z::.Z::.Z::.Z::.Z::.Z::.Z::.Z::.Z::.Z::.Z::.Z::.Z::.Z::.Z::.Z::.Z::.Z::.Z::.Z::.Z::.Z::.Z::.Z::.Z::.Z::.Z::.Z::.Z::.Z::.Z::.Z::.Z::.Z::.Z::.Z::.Z::.Z::.Z::.Z::.Z::.Z::.Z::.Z::.Z::.Z::.Z::.Z::.Z::.Z::.Z::.Z::.Z::.Z::.Z::.Z::.Z::.Z::.Z::.Z::.Z::.Z::.Z::.Z::.Z::.Z::.Z::.Z::.Z::.Z::.Z::.Z::.Z::.Z::.Z::.Z::.Z::.Z::.Z::.Z::.Z::.Z::.Z::.Z::.Z::.Z::.Z::.Z::.Z::.Z::.Z::.Z::.Z::.Z::.Z::.Z::.Z::.Z::.Z::.Z::.Z::.Z::.Z::.Z::.Z::.Z::.Z::.Z::.Z::[],[]⟩)|(.inr (v33,v34))=>(.exit 2,⟨.Z::.Z::.v (.int .i64 v7)::.fptr true [.v (.int .i64 v1),.list 1 (v2.map e_f),.v (.int .i64 v3),.v (.int .i64 v4)] 0::.fptr true [.list 1 (v5.map e_i),.list 1 (v6.map e_i)] 0::.Z::.Z::.lptr 0 0 0::.Z::.v (.int .i64 v34)::.Z::.Z::.Z::.Z::.Z::.Z::.Z::.Z::.Z::.Z::.Z::.Z::.Z::.Z::.Z::.Z::.Z::.Z::.Z::.Z::.Z::.Z::.Z::.Z::.Z::.Z::.Z::.Z::.Z::.Z::.Z::.Z::.Z::.Z::.Z::.Z::.Z::.Z::.Z::.Z::.Z::.Z::.Z::.Z::.Z::.Z::.Z::.Z::.Z::.Z::.Z::.Z::.Z::.Z::.Z::.Z::.Z::.Z::.Z::.Z::.Z::.Z::.Z::.Z::.Z::.Z::.Z::.Z::.Z::.Z::.Z::.Z::.Z::.Z::.Z::.Z::.Z::.Z::.Z::.Z::.Z::.Z::.Z::.Z::.Z::.Z::.Z::.Z::.Z::.Z::.Z::.Z::.Z::.Z::.Z::.Z::.Z::.Z::.Z::.Z::.Z::.Z::.Z::.Z::.Z::.Z::.Z::.Z::.Z::.Z::.Z::.Z::.Z::.Z::.Z::.Z::.Z::.Z::.Z::.Z::.Z::.Z::.Z::.Z::.Z::.Z::.Z::.Z::.Z::.Z::.Z::.Z::.Z::.Z::.Z::.Z::.Z::.Z::.Z::.Z::.Z::.Z::.Z::.Z::.Z::.Z::.Z::.Z::.Z::.Z::.Z::.Z::.Z::.Z::.Z::.Z::.Z::.Z::.Z::.Z::.Z::.Z::.Z::.Z::.Z::.Z::.Z::.Z::.Z::.Z::.Z::.Z::.Z::.Z::.Z::.Z::.Z::.Z::.Z::.Z::.Z::.Z::.Z::.Z::.Z::.Z::.Z::.Z::.Z::.Z::.Z::.Z::.Z::.Z::.Z::.Z::.Z::.Z::.Z::.Z::.Z::.Z::.Z::.Z::.Z::.Z::.Z::.Z::.Z::.Z::.Z::.Z::.Z::.Z::.Z::.Z::.Z::.Z::.Z::.Z::.Z::.Z::.Z::.Z::.Z::.Z::.Z::.Z::.Z::.Z::.Z::.Z::.Z::.Z::.Z::.Z::.Z::.Z::.Z::.Z::.Z::.Z::.Z::.Z::[],[.var [.v (.int .i64 v12),.lsl 1 0 v33.length],.rows 1 (v33.map e_f)]⟩)) ?_ ?_ ?_ ?_
        ·rintro⟨v27,v28,v29⟩ v0 hr
         dsimp only[bK] at hr
         try dsimp only
         refine wC T (g:=?_)
         rcases ifs hr with⟨h30,hr⟩|⟨h30,hr⟩
         ·have T:=an h30 T
          refine wA T (g:=?_)
          obtain⟨v35,h31,hr⟩:=bs hr
          have h31m:=qF (f:=e_i) h31
          have h31l:=nA h31
          try simp only[List.length_set] at h31l
          have h31a:=pR h31
          have T:=an h31m T
          have T:=an h31l T
          have T:=an h31a T
          refine wA T (g:=?_)
          obtain⟨v36,h32,hr⟩:=bs hr
          apply TO.cal (wn T) rfl xD (Spec.ov (gF h32) (by decide)) rfl rfl rfl
          repeat exact sd T
          refine wa_ T (g:=?_)
          apply TO.pop1 (wn T) (fS rfl)
          repeat exact sd T
          refine wa_ T (g:=?_)
          rcases ifs hr with⟨h33,hr⟩|⟨h33,hr⟩
          ·have T:=an h33 T
           refine wA T (g:=?_)
           apply TD.pop1 (wn T) (qA un3 un82 rfl)
           repeat exact sd T
           refine wa_ T (g:=?_)
           apply TD.bm e_f ([(FloatKind.f32.nearest v35)]:List Nat) (wn T) rfl (by simp only[zz,y58,e_f,e_i,Nat.reduceAdd,Nat.reduceMul,Nat.reduceLeDiff,Nat.reduceEqDiff,tslice,tparts,h2,h4,h5,h6,h8,h30,h31m,h31l,h31a,h33];exact rfl) rfl
           repeat exact sd T
           refine wa_ T (g:=?_)
           obtain⟨v37,h34,hr⟩:=bs hr
           apply TD.ap (f:=e_f) (xs:=v27) (ys:=([(FloatKind.f32.nearest v35)]:List Nat)) (wn T) rfl rfl (by first|rfl|simp only[List.length_set]) rfl rfl so22 ni22 zc82 rfl (by rw[by82];exact h34) (fun _=>⟨rfl,rfl,rfl⟩) rfl
           repeat exact sd T
           refine wa_ T (g:=?_)
           cases hr
           refine⟨rfl,?_⟩
           exact wk_ T [some 0,some 1] rfl (rv (.rows .nil rfl rfl) rfl)
          ·have T:=an h33 T
           refine wa_ T (g:=?_)
           cases hr
           refine⟨rfl,?_⟩
           exact wk_ T [] rfl .nil
         ·have T:=an h30 T
          refine wa_ T (g:=?_)
          cases hr
          refine⟨rfl,?_⟩
          exact wk_ T [some 0,some 1] rfl (rv (.rows .nil rfl rfl) rfl)
        ·intro e h;rcases e with _|e<;>cases h
        ·try dsimp only
         rcases v38 with _|⟨v39,v40⟩
         ·try dsimp only at hr
          try dsimp only
          refine wa_ T (g:=?_)
          exact lv T hr
         ·try dsimp only at hr
          try dsimp only
          refine wA T (g:=?_)
          rcases ifs hr with⟨h36,hr⟩|⟨h36,hr⟩
          ·have T:=an h36 T
           refine wa_ T (g:=?_)
           exact lv T hr
          ·have T:=an h36 T
           refine wA T (g:=?_)
           obtain⟨v41,h37,hr⟩:=bs hr
           apply TO.lok (wn T) rfl Yf (Spec.ov (qY h37) (by decide)) (vw T) rfl rfl (by simp[gE,cl,e_f,e_i,e_ii,e_iii])
           repeat exact sd T
           refine wa_ T (g:=?_)
           rcases ifs hr with⟨h38,hr⟩|⟨h38,hr⟩
           ·have T:=an h38 T
            refine wa_ T (g:=?_)
            exact lv T hr
           ·have T:=an h38 T
            refine wa_ T (g:=?_)
            obtain⟨v69,h57,hr⟩:=bs hr
            refine TX.loopE (step:=dR v1 v2 v3 v4 v12 v39) (x:=0) h57 (fun v42=>⟨.Z::.Z::.v (.int .i64 v7)::.fptr true [.v (.int .i64 v1),.list 1 (v2.map e_f),.v (.int .i64 v3),.v (.int .i64 v4)] 0::.fptr true [.list 1 (v5.map e_i),.list 1 (v6.map e_i)] 0::.Z::.Z::.lptr 0 0 0::.Z::.Z::.Z::.v (.int .i64 v42)::.Z::.Z::.Z::.Z::.Z::.Z::.Z::.Z::.Z::.Z::.Z::.Z::.Z::.Z::.Z::.Z::.Z::.Z::.Z::.Z::.Z::.Z::.Z::.Z::.Z::.Z::.Z::.Z::.Z::.Z::.Z::.Z::.Z::.Z::.Z::.Z::.Z::.Z::.Z::.Z::.Z::.Z::.Z::.Z::.Z::.Z::.Z::.Z::.Z::.Z::.Z::.Z::.Z::.Z::.Z::.Z::.Z::.Z::.Z::.Z::.Z::.Z::.Z::.Z::.Z::.Z::.Z::.Z::.Z::.Z::.Z::.Z::.Z::.Z::.Z::.Z::.Z::.Z::.Z::.Z::.Z::.Z::.Z::.Z::.Z::.Z::.Z::.Z::.Z::.Z::.Z::.Z::.Z::.Z::.Z::.Z::.Z::.Z::.Z::.Z::.Z::.Z::.Z::.Z::.Z::.Z::.Z::.Z::.Z::.Z::.Z::.Z::.Z::.Z::.Z::.Z::.Z::.Z::.Z::.Z::.Z::.Z::.Z::.Z::.Z::.Z::.Z::.Z::.Z::.Z::.Z::.Z::.Z::.Z::.Z::.Z::.Z::.Z::.Z::.Z::.Z::.Z::.Z::.Z::.Z::.Z::.Z::.Z::.Z::.Z::.Z::.Z::.Z::.Z::.Z::.Z::.Z::.Z::.Z::.Z::.Z::.Z::.Z::.Z::.Z::.Z::.Z::.Z::.Z::.Z::.Z::.Z::.Z::.Z::.Z::.Z::.Z::.Z::.Z::.Z::.Z::.Z::.Z::.Z::.Z::.Z::.Z::.Z::.Z::.Z::.Z::.Z::.Z::.Z::.Z::.Z::.Z::.Z::.Z::.Z::.Z::.Z::.Z::.Z::.Z::.Z::.Z::.Z::.Z::.Z::.Z::.Z::.Z::.Z::.Z::.Z::.Z::.Z::.Z::.Z::.Z::.Z::.Z::.Z::.Z::.Z::.Z::.Z::.Z::.Z::.Z::.Z::.Z::.Z::.Z::.Z::.Z::.Z::.Z::.Z::.Z::.Z::[],[.var [.v (.int .i64 v12),.lsl 1 0 v39.length],.rows 1 (v39.map e_f)]⟩) (fun e=>match e with|(.inl _)=>(.ret,⟨.Z::.Z::.Z::.Z::.Z::.Z::.v (.bool false)::.Z::.Z::.Z::.Z::.Z::.Z::.Z::.Z::.Z::.Z::.Z::.Z::.Z::.Z::.Z::.Z::.Z::.Z::.Z::.Z::.Z::.Z::.Z::.Z::.Z::.Z::.Z::.Z::.Z::.Z::.Z::.Z::.Z::.Z::.Z::.Z::.Z::.Z::.Z::.Z::.Z::.Z::.Z::.Z::.Z::.Z::.Z::.Z::.Z::.Z::.Z::.Z::.Z::.Z::.Z::.Z::.Z::.Z::.Z::.Z::.Z::.Z::.Z::.Z::.Z::.Z::.Z::.Z::.Z::.Z::.Z::.Z::.Z::.Z::.Z::.Z::.Z::.Z::.Z::.Z::.Z::.Z::.Z::.Z::.Z::.Z::.Z::.Z::.Z::.Z::.Z::.Z::.Z::.Z::.Z::.Z::.Z::.Z::.Z::.Z::.Z::.Z::.Z::.Z::.Z::.Z::.Z::.Z::.Z::.Z::.Z::.Z::.Z::.Z::.Z::.Z::.Z::.Z::.Z::.Z::.Z::.Z::.Z::.Z::.Z::.Z::.Z::.Z::.Z::.Z::.Z::.Z::.Z::.Z::.Z::.Z::.Z::.Z::.Z::.Z::.Z::.Z::.Z::.Z::.Z::.Z::.Z::.Z::.Z::.Z::.Z::.Z::.Z::.Z::.Z::.Z::.Z::.Z::.Z::.Z::.Z::.Z::.Z::.Z::.Z::.Z::.Z::.Z::.Z::.Z::.Z::.Z::.Z::.Z::.Z::.Z::.Z::.Z::.Z::.Z::.Z::.Z::.Z::.Z::.Z::.Z::.Z::.Z::.Z::.Z::.Z::.Z::.Z::.Z::.Z::.Z::.Z::.Z::.Z::.Z::.Z::.Z::.Z::.Z::.Z::.Z::.Z::.Z::.Z::.Z::.Z::.Z::.Z::.Z::.Z::.Z::.Z::.Z::.Z::.Z::.Z::.Z::.Z::.Z::.Z::.Z::.Z::.Z::.Z::.Z::.Z::.Z::.Z::.Z::.Z::.Z::.Z::.Z::.Z::.Z::.Z::.Z::.Z::.Z::.Z::.Z::.Z::[],[]⟩)|(.inr _)=>(.exit 4,⟨.Z::.Z::.v (.int .i64 v7)::.fptr true [.v (.int .i64 v1),.list 1 (v2.map e_f),.v (.int .i64 v3),.v (.int .i64 v4)] 0::.fptr true [.list 1 (v5.map e_i),.list 1 (v6.map e_i)] 0::.Z::.Z::.lptr 0 0 0::.Z::.Z::.Z::.Z::.Z::.Z::.Z::.Z::.Z::.Z::.Z::.Z::.Z::.Z::.Z::.Z::.Z::.Z::.Z::.Z::.Z::.Z::.Z::.Z::.Z::.Z::.Z::.Z::.Z::.Z::.Z::.Z::.Z::.Z::.Z::.Z::.Z::.Z::.Z::.Z::.Z::.Z::.Z::.Z::.Z::.Z::.Z::.Z::.Z::.Z::.Z::.Z::.Z::.Z::.Z::.Z::.Z::.Z::.Z::.Z::.Z::.Z::.Z::.Z::.Z::.Z::.Z::.Z::.Z::.Z::.Z::.Z::.Z::.Z::.Z::.Z::.Z::.Z::.Z::.Z::.Z::.Z::.Z::.Z::.Z::.Z::.Z::.Z::.Z::.Z::.Z::.Z::.Z::.Z::.Z::.Z::.Z::.Z::.Z::.Z::.Z::.Z::.Z::.Z::.Z::.Z::.Z::.Z::.Z::.Z::.Z::.Z::.Z::.Z::.Z::.Z::.Z::.Z::.Z::.Z::.Z::.Z::.Z::.Z::.Z::.Z::.Z::.Z::.Z::.Z::.Z::.Z::.Z::.Z::.Z::.Z::.Z::.Z::.Z::.Z::.Z::.Z::.Z::.Z::.Z::.Z::.Z::.Z::.Z::.Z::.Z::.Z::.Z::.Z::.Z::.Z::.Z::.Z::.Z::.Z::.Z::.Z::.Z::.Z::.Z::.Z::.Z::.Z::.Z::.Z::.Z::.Z::.Z::.Z::.Z::.Z::.Z::.Z::.Z::.Z::.Z::.Z::.Z::.Z::.Z::.Z::.Z::.Z::.Z::.Z::.Z::.Z::.Z::.Z::.Z::.Z::.Z::.Z::.Z::.Z::.Z::.Z::.Z::.Z::.Z::.Z::.Z::.Z::.Z::.Z::.Z::.Z::.Z::.Z::.Z::.Z::.Z::.Z::.Z::.Z::.Z::.Z::.Z::.Z::.Z::.Z::.Z::.Z::.Z::.Z::.Z::.Z::.Z::.Z::.Z::.Z::.Z::.Z::.Z::.Z::.Z::.Z::.Z::.Z::.Z::.Z::[],[.var [.v (.int .i64 v12),.lsl 1 0 v39.length],.rows 1 (v39.map e_f)]⟩)) ?_ ?_ ?_ ?_
            ·as_aux_lemma =>
               rintro v42 v0 hr
               dsimp only[dR] at hr
               try dsimp only
               refine wa_ T (g:=?_)
               rcases ifs hr with⟨h48,hr⟩|⟨h48,hr⟩
               ·have T:=an h48 T
                refine wA T (g:=?_)
                obtain⟨⟨v56,v57⟩,h49,hr⟩:=bs hr
                try dsimp only at hr
                apply TO.lok (wn T) rfl Lh (Spec.ov (jF h49) (by decide)) (vw T) rfl rfl (by simp[gE,cl,e_f,e_i,e_ii,e_iii])
                repeat exact sd T
                refine wa_ T (g:=?_)
                obtain⟨⟨v58,v59,v60⟩,h50,hr⟩:=bs hr
                try dsimp only at hr
                apply TO.lok (wn T) rfl Yt (Spec.ov (uV h50) (by decide)) (vw T) rfl rfl (by simp[gE,cl,e_f,e_i,e_ii,e_iii])
                repeat exact sd T
                refine wA T (g:=?_)
                obtain⟨⟨v61,v62,v63,v64⟩,h51,hr⟩:=bs hr
                try dsimp only at hr
                apply TO.cal (wn T) rfl fB (Spec.ov (aK h51) (by decide)) rfl rfl rfl
                repeat exact sd T
                refine wa_ T (g:=?_)
                obtain⟨⟨v65,v66,v67⟩,h52,hr⟩:=bs hr
                try dsimp only at hr
                apply TO.lok (wn T) rfl Sk (Spec.ov (lC h52) (by decide)) (vw T) rfl rfl (by simp[gE,cl,e_f,e_i,e_ii,e_iii])
                repeat exact sd T
                refine wa_ T (g:=?_)
                rcases ifs hr with⟨h53,hr⟩|⟨h53,hr⟩
                ·have T:=an h53 T
                 refine wa_ T (g:=?_)
                 rcases ifs hr with⟨h54,hr⟩|⟨h54,hr⟩
                 ·have T:=an h54 T
                  refine wa_ T (g:=?_)
                  cases hr
                  refine⟨rfl,?_⟩
                  exact wk_ T [] rfl .nil
                 ·have T:=an h54 T
                  refine wA T (g:=?_)
                  obtain⟨v68,h55,hr⟩:=bs hr
                  apply TO.cal (wn T) rfl lU (Spec.ov (bQ h55) (by decide)) rfl rfl rfl
                  repeat exact sd T
                  refine wa_ T (g:=?_)
                  apply TO.pop1 (wn T) (fS rfl)
                  repeat exact sd T
                  refine wa_ T (g:=?_)
                  rcases ifs hr with⟨h56,hr⟩|⟨h56,hr⟩
                  ·have T:=an h56 T
                   refine wa_ T (g:=?_)
                   cases hr
                   refine⟨rfl,?_⟩
                   exact wk_ T [some 0,some 1] rfl (rv (.rows .nil rfl rfl) rfl)
                  ·have T:=an h56 T
                   refine wa_ T (g:=?_)
                   cases hr
                   refine⟨rfl,?_⟩
                   exact wk_ T [] rfl .nil
                ·have T:=an h53 T
                 refine wa_ T (g:=?_)
                 cases hr
                 refine⟨rfl,?_⟩
                 exact wk_ T [some 0,some 1] rfl (rv (.rows .nil rfl rfl) rfl)
               ·have T:=an h48 T
                refine wa_ T (g:=?_)
                cases hr
                refine⟨rfl,?_⟩
                exact wk_ T [some 0,some 1] rfl (rv (.rows .nil rfl rfl) rfl)
            ·intro e h;rcases e with _|e<;>cases h
            ·try dsimp only
             rcases v69 with _|_
             ·try dsimp only at hr
              try dsimp only
              refine wa_ T (g:=?_)
              exact lv T hr
             ·try dsimp only at hr
              try dsimp only
              refine wA T (g:=?_)
              obtain⟨⟨v70,v71,v72,v73⟩,h58,hr⟩:=bs hr
              try dsimp only at hr
              apply TO.lok (wn T) rfl fB (Spec.ov (aK h58) (by decide)) (vw T) rfl rfl (by simp[gE,cl,e_f,e_i,e_ii,e_iii])
              repeat exact sd T
              refine wa_ T (g:=?_)
              obtain⟨⟨v74,v75,v76⟩,h59,hr⟩:=bs hr
              try dsimp only at hr
              apply TO.lok (wn T) rfl Qw (Spec.ov (nY h59) (by decide)) (vw T) rfl rfl (by simp[gE,cl,e_f,e_i,e_ii,e_iii])
              repeat exact sd T
              refine wA T (g:=?_)
              obtain⟨⟨v77,v78,v79,v80⟩,h60,hr⟩:=bs hr
              try dsimp only at hr
              apply TO.cal (wn T) rfl fB (Spec.ov (aK h60) (by decide)) rfl rfl rfl
              repeat exact sd T
              refine wa_ T (g:=?_)
              obtain⟨⟨v81,v82,v83⟩,h61,hr⟩:=bs hr
              try dsimp only at hr
              apply TO.lok (wn T) rfl Qw (Spec.ov (nY h61) (by decide)) (vw T) rfl rfl (by simp[gE,cl,e_f,e_i,e_ii,e_iii])
              repeat exact sd T
              refine wa_ T (g:=?_)
              rcases ifs hr with⟨h62,hr⟩|⟨h62,hr⟩
              ·have T:=an h62 T
               refine wa_ T (g:=?_)
               rcases ifs hr with⟨h63,hr⟩|⟨h63,hr⟩
               ·as_aux_lemma =>
                  have T:=an h63 T
                  refine wA T (g:=?_)
                  obtain⟨v84,h64,hr⟩:=bs hr
                  apply TO.cal (wn T) rfl lU (Spec.ov (bQ h64) (by decide)) rfl rfl rfl
                  repeat exact sd T
                  refine wa_ T (g:=?_)
                  apply TO.pop1 (wn T) (fS rfl)
                  repeat exact sd T
                  refine wa_ T (g:=?_)
                  rcases ifs hr with⟨h65,hr⟩|⟨h65,hr⟩
                  ·have T:=an h65 T
                   refine wA T (g:=?_)
                   obtain⟨⟨v85,v86,v87,v88⟩,h66,hr⟩:=bs hr
                   try dsimp only at hr
                   apply TO.lok (wn T) rfl fB (Spec.ov (aK h66) (by decide)) (vw T) rfl rfl (by simp[gE,cl,e_f,e_i,e_ii,e_iii])
                   repeat exact sd T
                   refine wa_ T (g:=?_)
                   obtain⟨⟨v89,v90,v91⟩,h67,hr⟩:=bs hr
                   try dsimp only at hr
                   apply TO.lok (wn T) rfl xF (Spec.ov (cE h67) (by decide)) (vw T) rfl rfl (by simp[gE,cl,e_f,e_i,e_ii,e_iii])
                   repeat exact sd T
                   refine wA T (g:=?_)
                   obtain⟨⟨v92,v93,v94,v95⟩,h68,hr⟩:=bs hr
                   try dsimp only at hr
                   apply TO.cal (wn T) rfl fB (Spec.ov (aK h68) (by decide)) rfl rfl rfl
                   repeat exact sd T
                   refine wa_ T (g:=?_)
                   obtain⟨⟨v96,v97,v98⟩,h69,hr⟩:=bs hr
                   try dsimp only at hr
                   apply TO.lok (wn T) rfl xF (Spec.ov (cE h69) (by decide)) (vw T) rfl rfl (by simp[gE,cl,e_f,e_i,e_ii,e_iii])
                   repeat exact sd T
                   refine wa_ T (g:=?_)
                   rcases ifs hr with⟨h70,hr⟩|⟨h70,hr⟩
                   ·have T:=an h70 T
                    refine wa_ T (g:=?_)
                    rcases ifs hr with⟨h71,hr⟩|⟨h71,hr⟩
                    ·have T:=an h71 T
                     refine wA T (g:=?_)
                     obtain⟨v99,h72,hr⟩:=bs hr
                     apply TO.cal (wn T) rfl lU (Spec.ov (bQ h72) (by decide)) rfl rfl rfl
                     repeat exact sd T
                     refine wa_ T (g:=?_)
                     apply TO.pop1 (wn T) (fS rfl)
                     repeat exact sd T
                     refine wa_ T (g:=?_)
                     rcases ifs hr with⟨h73,hr⟩|⟨h73,hr⟩
                     ·have T:=an h73 T
                      refine wA T (g:=?_)
                      obtain⟨⟨v100,v101,v102,v103⟩,h74,hr⟩:=bs hr
                      try dsimp only at hr
                      apply TO.lok (wn T) rfl fB (Spec.ov (aK h74) (by decide)) (vw T) rfl rfl (by simp[gE,cl,e_f,e_i,e_ii,e_iii])
                      repeat exact sd T
                      refine wa_ T (g:=?_)
                      obtain⟨⟨v104,v105,v106⟩,h75,hr⟩:=bs hr
                      try dsimp only at hr
                      apply TO.lok (wn T) rfl jT (Spec.ov (aP h75) (by decide)) (vw T) rfl rfl (by simp[gE,cl,e_f,e_i,e_ii,e_iii])
                      repeat exact sd T
                      refine wA T (g:=?_)
                      obtain⟨⟨v107,v108,v109,v110⟩,h76,hr⟩:=bs hr
                      try dsimp only at hr
                      apply TO.cal (wn T) rfl fB (Spec.ov (aK h76) (by decide)) rfl rfl rfl
                      repeat exact sd T
                      refine wa_ T (g:=?_)
                      obtain⟨⟨v111,v112,v113⟩,h77,hr⟩:=bs hr
                      try dsimp only at hr
                      apply TO.lok (wn T) rfl jT (Spec.ov (aP h77) (by decide)) (vw T) rfl rfl (by simp[gE,cl,e_f,e_i,e_ii,e_iii])
                      repeat exact sd T
                      refine wa_ T (g:=?_)
                      rcases ifs hr with⟨h78,hr⟩|⟨h78,hr⟩
                      ·have T:=an h78 T
                       refine wa_ T (g:=?_)
                       exact lv T hr
                      ·have T:=an h78 T
                       refine wa_ T (g:=?_)
                       rcases ifs hr with⟨h79,hr⟩|⟨h79,hr⟩
                       ·have T:=an h79 T
                        refine wa_ T (g:=?_)
                        exact lv T hr
                       ·have T:=an h79 T
                        refine wC T (g:=?_)
                        rcases ifs hr with⟨h80,hr⟩|⟨h80,hr⟩
                        ·have T:=an h80 T
                         refine wa_ T (g:=?_)
                         exact lv T hr
                        ·have T:=an h80 T
                         refine wA T (g:=?_)
                         obtain⟨v114,h81,hr⟩:=bs hr
                         apply TO.cal (wn T) rfl lU (Spec.ov (bQ h81) (by decide)) rfl rfl rfl
                         repeat exact sd T
                         refine wa_ T (g:=?_)
                         exact lv T hr
                     ·have T:=an h73 T
                      refine wa_ T (g:=?_)
                      exact lv T hr
                    ·have T:=an h71 T
                     refine wA T (g:=?_)
                     obtain⟨⟨v115,v116,v117,v118⟩,h82,hr⟩:=bs hr
                     try dsimp only at hr
                     apply TO.lok (wn T) rfl fB (Spec.ov (aK h82) (by decide)) (vw T) rfl rfl (by simp[gE,cl,e_f,e_i,e_ii,e_iii])
                     repeat exact sd T
                     refine wa_ T (g:=?_)
                     obtain⟨⟨v119,v120,v121⟩,h83,hr⟩:=bs hr
                     try dsimp only at hr
                     apply TO.lok (wn T) rfl jT (Spec.ov (aP h83) (by decide)) (vw T) rfl rfl (by simp[gE,cl,e_f,e_i,e_ii,e_iii])
                     repeat exact sd T
                     refine wA T (g:=?_)
                     obtain⟨⟨v122,v123,v124,v125⟩,h84,hr⟩:=bs hr
                     try dsimp only at hr
                     apply TO.cal (wn T) rfl fB (Spec.ov (aK h84) (by decide)) rfl rfl rfl
                     repeat exact sd T
                     refine wa_ T (g:=?_)
                     obtain⟨⟨v126,v127,v128⟩,h85,hr⟩:=bs hr
                     try dsimp only at hr
                     apply TO.lok (wn T) rfl jT (Spec.ov (aP h85) (by decide)) (vw T) rfl rfl (by simp[gE,cl,e_f,e_i,e_ii,e_iii])
                     repeat exact sd T
                     refine wa_ T (g:=?_)
                     rcases ifs hr with⟨h86,hr⟩|⟨h86,hr⟩
                     ·have T:=an h86 T
                      refine wa_ T (g:=?_)
                      exact lv T hr
                     ·have T:=an h86 T
                      refine wa_ T (g:=?_)
                      rcases ifs hr with⟨h87,hr⟩|⟨h87,hr⟩
                      ·have T:=an h87 T
                       refine wa_ T (g:=?_)
                       exact lv T hr
                      ·have T:=an h87 T
                       refine wC T (g:=?_)
                       rcases ifs hr with⟨h88,hr⟩|⟨h88,hr⟩
                       ·have T:=an h88 T
                        refine wa_ T (g:=?_)
                        exact lv T hr
                       ·have T:=an h88 T
                        refine wA T (g:=?_)
                        obtain⟨v129,h89,hr⟩:=bs hr
                        apply TO.cal (wn T) rfl lU (Spec.ov (bQ h89) (by decide)) rfl rfl rfl
                        repeat exact sd T
                        refine wa_ T (g:=?_)
                        exact lv T hr
                   ·have T:=an h70 T
                    refine wA T (g:=?_)
                    obtain⟨⟨v130,v131,v132,v133⟩,h90,hr⟩:=bs hr
                    try dsimp only at hr
                    apply TO.lok (wn T) rfl fB (Spec.ov (aK h90) (by decide)) (vw T) rfl rfl (by simp[gE,cl,e_f,e_i,e_ii,e_iii])
                    repeat exact sd T
                    refine wa_ T (g:=?_)
                    obtain⟨⟨v134,v135,v136⟩,h91,hr⟩:=bs hr
                    try dsimp only at hr
                    apply TO.lok (wn T) rfl jT (Spec.ov (aP h91) (by decide)) (vw T) rfl rfl (by simp[gE,cl,e_f,e_i,e_ii,e_iii])
                    repeat exact sd T
                    refine wA T (g:=?_)
                    obtain⟨⟨v137,v138,v139,v140⟩,h92,hr⟩:=bs hr
                    try dsimp only at hr
                    apply TO.cal (wn T) rfl fB (Spec.ov (aK h92) (by decide)) rfl rfl rfl
                    repeat exact sd T
                    refine wa_ T (g:=?_)
                    obtain⟨⟨v141,v142,v143⟩,h93,hr⟩:=bs hr
                    try dsimp only at hr
                    apply TO.lok (wn T) rfl jT (Spec.ov (aP h93) (by decide)) (vw T) rfl rfl (by simp[gE,cl,e_f,e_i,e_ii,e_iii])
                    repeat exact sd T
                    refine wa_ T (g:=?_)
                    rcases ifs hr with⟨h94,hr⟩|⟨h94,hr⟩
                    ·have T:=an h94 T
                     refine wa_ T (g:=?_)
                     exact lv T hr
                    ·have T:=an h94 T
                     refine wa_ T (g:=?_)
                     rcases ifs hr with⟨h95,hr⟩|⟨h95,hr⟩
                     ·have T:=an h95 T
                      refine wa_ T (g:=?_)
                      exact lv T hr
                     ·have T:=an h95 T
                      refine wC T (g:=?_)
                      rcases ifs hr with⟨h96,hr⟩|⟨h96,hr⟩
                      ·have T:=an h96 T
                       refine wa_ T (g:=?_)
                       exact lv T hr
                      ·have T:=an h96 T
                       refine wA T (g:=?_)
                       obtain⟨v144,h97,hr⟩:=bs hr
                       apply TO.cal (wn T) rfl lU (Spec.ov (bQ h97) (by decide)) rfl rfl rfl
                       repeat exact sd T
                       refine wa_ T (g:=?_)
                       exact lv T hr
                  ·have T:=an h65 T
                   refine wa_ T (g:=?_)
                   exact lv T hr
               ·as_aux_lemma =>
                  have T:=an h63 T
                  refine wA T (g:=?_)
                  obtain⟨⟨v145,v146,v147,v148⟩,h98,hr⟩:=bs hr
                  try dsimp only at hr
                  apply TO.lok (wn T) rfl fB (Spec.ov (aK h98) (by decide)) (vw T) rfl rfl (by simp[gE,cl,e_f,e_i,e_ii,e_iii])
                  repeat exact sd T
                  refine wa_ T (g:=?_)
                  obtain⟨⟨v149,v150,v151⟩,h99,hr⟩:=bs hr
                  try dsimp only at hr
                  apply TO.lok (wn T) rfl xF (Spec.ov (cE h99) (by decide)) (vw T) rfl rfl (by simp[gE,cl,e_f,e_i,e_ii,e_iii])
                  repeat exact sd T
                  refine wA T (g:=?_)
                  obtain⟨⟨v152,v153,v154,v155⟩,h100,hr⟩:=bs hr
                  try dsimp only at hr
                  apply TO.cal (wn T) rfl fB (Spec.ov (aK h100) (by decide)) rfl rfl rfl
                  repeat exact sd T
                  refine wa_ T (g:=?_)
                  obtain⟨⟨v156,v157,v158⟩,h101,hr⟩:=bs hr
                  try dsimp only at hr
                  apply TO.lok (wn T) rfl xF (Spec.ov (cE h101) (by decide)) (vw T) rfl rfl (by simp[gE,cl,e_f,e_i,e_ii,e_iii])
                  repeat exact sd T
                  refine wa_ T (g:=?_)
                  rcases ifs hr with⟨h102,hr⟩|⟨h102,hr⟩
                  ·have T:=an h102 T
                   refine wa_ T (g:=?_)
                   rcases ifs hr with⟨h103,hr⟩|⟨h103,hr⟩
                   ·have T:=an h103 T
                    refine wA T (g:=?_)
                    obtain⟨v159,h104,hr⟩:=bs hr
                    apply TO.cal (wn T) rfl lU (Spec.ov (bQ h104) (by decide)) rfl rfl rfl
                    repeat exact sd T
                    refine wa_ T (g:=?_)
                    apply TO.pop1 (wn T) (fS rfl)
                    repeat exact sd T
                    refine wa_ T (g:=?_)
                    rcases ifs hr with⟨h105,hr⟩|⟨h105,hr⟩
                    ·have T:=an h105 T
                     refine wA T (g:=?_)
                     obtain⟨⟨v160,v161,v162,v163⟩,h106,hr⟩:=bs hr
                     try dsimp only at hr
                     apply TO.lok (wn T) rfl fB (Spec.ov (aK h106) (by decide)) (vw T) rfl rfl (by simp[gE,cl,e_f,e_i,e_ii,e_iii])
                     repeat exact sd T
                     refine wa_ T (g:=?_)
                     obtain⟨⟨v164,v165,v166⟩,h107,hr⟩:=bs hr
                     try dsimp only at hr
                     apply TO.lok (wn T) rfl jT (Spec.ov (aP h107) (by decide)) (vw T) rfl rfl (by simp[gE,cl,e_f,e_i,e_ii,e_iii])
                     repeat exact sd T
                     refine wA T (g:=?_)
                     obtain⟨⟨v167,v168,v169,v170⟩,h108,hr⟩:=bs hr
                     try dsimp only at hr
                     apply TO.cal (wn T) rfl fB (Spec.ov (aK h108) (by decide)) rfl rfl rfl
                     repeat exact sd T
                     refine wa_ T (g:=?_)
                     obtain⟨⟨v171,v172,v173⟩,h109,hr⟩:=bs hr
                     try dsimp only at hr
                     apply TO.lok (wn T) rfl jT (Spec.ov (aP h109) (by decide)) (vw T) rfl rfl (by simp[gE,cl,e_f,e_i,e_ii,e_iii])
                     repeat exact sd T
                     refine wa_ T (g:=?_)
                     rcases ifs hr with⟨h110,hr⟩|⟨h110,hr⟩
                     ·have T:=an h110 T
                      refine wa_ T (g:=?_)
                      exact lv T hr
                     ·have T:=an h110 T
                      refine wa_ T (g:=?_)
                      rcases ifs hr with⟨h111,hr⟩|⟨h111,hr⟩
                      ·have T:=an h111 T
                       refine wa_ T (g:=?_)
                       exact lv T hr
                      ·have T:=an h111 T
                       refine wC T (g:=?_)
                       rcases ifs hr with⟨h112,hr⟩|⟨h112,hr⟩
                       ·have T:=an h112 T
                        refine wa_ T (g:=?_)
                        exact lv T hr
                       ·have T:=an h112 T
                        refine wA T (g:=?_)
                        obtain⟨v174,h113,hr⟩:=bs hr
                        apply TO.cal (wn T) rfl lU (Spec.ov (bQ h113) (by decide)) rfl rfl rfl
                        repeat exact sd T
                        refine wa_ T (g:=?_)
                        exact lv T hr
                    ·have T:=an h105 T
                     refine wa_ T (g:=?_)
                     exact lv T hr
                   ·have T:=an h103 T
                    refine wA T (g:=?_)
                    obtain⟨⟨v175,v176,v177,v178⟩,h114,hr⟩:=bs hr
                    try dsimp only at hr
                    apply TO.lok (wn T) rfl fB (Spec.ov (aK h114) (by decide)) (vw T) rfl rfl (by simp[gE,cl,e_f,e_i,e_ii,e_iii])
                    repeat exact sd T
                    refine wa_ T (g:=?_)
                    obtain⟨⟨v179,v180,v181⟩,h115,hr⟩:=bs hr
                    try dsimp only at hr
                    apply TO.lok (wn T) rfl jT (Spec.ov (aP h115) (by decide)) (vw T) rfl rfl (by simp[gE,cl,e_f,e_i,e_ii,e_iii])
                    repeat exact sd T
                    refine wA T (g:=?_)
                    obtain⟨⟨v182,v183,v184,v185⟩,h116,hr⟩:=bs hr
                    try dsimp only at hr
                    apply TO.cal (wn T) rfl fB (Spec.ov (aK h116) (by decide)) rfl rfl rfl
                    repeat exact sd T
                    refine wa_ T (g:=?_)
                    obtain⟨⟨v186,v187,v188⟩,h117,hr⟩:=bs hr
                    try dsimp only at hr
                    apply TO.lok (wn T) rfl jT (Spec.ov (aP h117) (by decide)) (vw T) rfl rfl (by simp[gE,cl,e_f,e_i,e_ii,e_iii])
                    repeat exact sd T
                    refine wa_ T (g:=?_)
                    rcases ifs hr with⟨h118,hr⟩|⟨h118,hr⟩
                    ·have T:=an h118 T
                     refine wa_ T (g:=?_)
                     exact lv T hr
                    ·have T:=an h118 T
                     refine wa_ T (g:=?_)
                     rcases ifs hr with⟨h119,hr⟩|⟨h119,hr⟩
                     ·have T:=an h119 T
                      refine wa_ T (g:=?_)
                      exact lv T hr
                     ·have T:=an h119 T
                      refine wC T (g:=?_)
                      rcases ifs hr with⟨h120,hr⟩|⟨h120,hr⟩
                      ·have T:=an h120 T
                       refine wa_ T (g:=?_)
                       exact lv T hr
                      ·have T:=an h120 T
                       refine wA T (g:=?_)
                       obtain⟨v189,h121,hr⟩:=bs hr
                       apply TO.cal (wn T) rfl lU (Spec.ov (bQ h121) (by decide)) rfl rfl rfl
                       repeat exact sd T
                       refine wa_ T (g:=?_)
                       exact lv T hr
                  ·have T:=an h102 T
                   refine wA T (g:=?_)
                   obtain⟨⟨v190,v191,v192,v193⟩,h122,hr⟩:=bs hr
                   try dsimp only at hr
                   apply TO.lok (wn T) rfl fB (Spec.ov (aK h122) (by decide)) (vw T) rfl rfl (by simp[gE,cl,e_f,e_i,e_ii,e_iii])
                   repeat exact sd T
                   refine wa_ T (g:=?_)
                   obtain⟨⟨v194,v195,v196⟩,h123,hr⟩:=bs hr
                   try dsimp only at hr
                   apply TO.lok (wn T) rfl jT (Spec.ov (aP h123) (by decide)) (vw T) rfl rfl (by simp[gE,cl,e_f,e_i,e_ii,e_iii])
                   repeat exact sd T
                   refine wA T (g:=?_)
                   obtain⟨⟨v197,v198,v199,v200⟩,h124,hr⟩:=bs hr
                   try dsimp only at hr
                   apply TO.cal (wn T) rfl fB (Spec.ov (aK h124) (by decide)) rfl rfl rfl
                   repeat exact sd T
                   refine wa_ T (g:=?_)
                   obtain⟨⟨v201,v202,v203⟩,h125,hr⟩:=bs hr
                   try dsimp only at hr
                   apply TO.lok (wn T) rfl jT (Spec.ov (aP h125) (by decide)) (vw T) rfl rfl (by simp[gE,cl,e_f,e_i,e_ii,e_iii])
                   repeat exact sd T
                   refine wa_ T (g:=?_)
                   rcases ifs hr with⟨h126,hr⟩|⟨h126,hr⟩
                   ·have T:=an h126 T
                    refine wa_ T (g:=?_)
                    exact lv T hr
                   ·have T:=an h126 T
                    refine wa_ T (g:=?_)
                    rcases ifs hr with⟨h127,hr⟩|⟨h127,hr⟩
                    ·have T:=an h127 T
                     refine wa_ T (g:=?_)
                     exact lv T hr
                    ·have T:=an h127 T
                     refine wC T (g:=?_)
                     rcases ifs hr with⟨h128,hr⟩|⟨h128,hr⟩
                     ·have T:=an h128 T
                      refine wa_ T (g:=?_)
                      exact lv T hr
                     ·have T:=an h128 T
                      refine wA T (g:=?_)
                      obtain⟨v204,h129,hr⟩:=bs hr
                      apply TO.cal (wn T) rfl lU (Spec.ov (bQ h129) (by decide)) rfl rfl rfl
                      repeat exact sd T
                      refine wa_ T (g:=?_)
                      exact lv T hr
              ·as_aux_lemma =>
                 have T:=an h62 T
                 refine wA T (g:=?_)
                 obtain⟨⟨v205,v206,v207,v208⟩,h130,hr⟩:=bs hr
                 try dsimp only at hr
                 apply TO.lok (wn T) rfl fB (Spec.ov (aK h130) (by decide)) (vw T) rfl rfl (by simp[gE,cl,e_f,e_i,e_ii,e_iii])
                 repeat exact sd T
                 refine wa_ T (g:=?_)
                 obtain⟨⟨v209,v210,v211⟩,h131,hr⟩:=bs hr
                 try dsimp only at hr
                 apply TO.lok (wn T) rfl xF (Spec.ov (cE h131) (by decide)) (vw T) rfl rfl (by simp[gE,cl,e_f,e_i,e_ii,e_iii])
                 repeat exact sd T
                 refine wA T (g:=?_)
                 obtain⟨⟨v212,v213,v214,v215⟩,h132,hr⟩:=bs hr
                 try dsimp only at hr
                 apply TO.cal (wn T) rfl fB (Spec.ov (aK h132) (by decide)) rfl rfl rfl
                 repeat exact sd T
                 refine wa_ T (g:=?_)
                 obtain⟨⟨v216,v217,v218⟩,h133,hr⟩:=bs hr
                 try dsimp only at hr
                 apply TO.lok (wn T) rfl xF (Spec.ov (cE h133) (by decide)) (vw T) rfl rfl (by simp[gE,cl,e_f,e_i,e_ii,e_iii])
                 repeat exact sd T
                 refine wa_ T (g:=?_)
                 rcases ifs hr with⟨h134,hr⟩|⟨h134,hr⟩
                 ·have T:=an h134 T
                  refine wa_ T (g:=?_)
                  rcases ifs hr with⟨h135,hr⟩|⟨h135,hr⟩
                  ·have T:=an h135 T
                   refine wA T (g:=?_)
                   obtain⟨v219,h136,hr⟩:=bs hr
                   apply TO.cal (wn T) rfl lU (Spec.ov (bQ h136) (by decide)) rfl rfl rfl
                   repeat exact sd T
                   refine wa_ T (g:=?_)
                   apply TO.pop1 (wn T) (fS rfl)
                   repeat exact sd T
                   refine wa_ T (g:=?_)
                   rcases ifs hr with⟨h137,hr⟩|⟨h137,hr⟩
                   ·have T:=an h137 T
                    refine wA T (g:=?_)
                    obtain⟨⟨v220,v221,v222,v223⟩,h138,hr⟩:=bs hr
                    try dsimp only at hr
                    apply TO.lok (wn T) rfl fB (Spec.ov (aK h138) (by decide)) (vw T) rfl rfl (by simp[gE,cl,e_f,e_i,e_ii,e_iii])
                    repeat exact sd T
                    refine wa_ T (g:=?_)
                    obtain⟨⟨v224,v225,v226⟩,h139,hr⟩:=bs hr
                    try dsimp only at hr
                    apply TO.lok (wn T) rfl jT (Spec.ov (aP h139) (by decide)) (vw T) rfl rfl (by simp[gE,cl,e_f,e_i,e_ii,e_iii])
                    repeat exact sd T
                    refine wA T (g:=?_)
                    obtain⟨⟨v227,v228,v229,v230⟩,h140,hr⟩:=bs hr
                    try dsimp only at hr
                    apply TO.cal (wn T) rfl fB (Spec.ov (aK h140) (by decide)) rfl rfl rfl
                    repeat exact sd T
                    refine wa_ T (g:=?_)
                    obtain⟨⟨v231,v232,v233⟩,h141,hr⟩:=bs hr
                    try dsimp only at hr
                    apply TO.lok (wn T) rfl jT (Spec.ov (aP h141) (by decide)) (vw T) rfl rfl (by simp[gE,cl,e_f,e_i,e_ii,e_iii])
                    repeat exact sd T
                    refine wa_ T (g:=?_)
                    rcases ifs hr with⟨h142,hr⟩|⟨h142,hr⟩
                    ·have T:=an h142 T
                     refine wa_ T (g:=?_)
                     exact lv T hr
                    ·have T:=an h142 T
                     refine wa_ T (g:=?_)
                     rcases ifs hr with⟨h143,hr⟩|⟨h143,hr⟩
                     ·have T:=an h143 T
                      refine wa_ T (g:=?_)
                      exact lv T hr
                     ·have T:=an h143 T
                      refine wC T (g:=?_)
                      rcases ifs hr with⟨h144,hr⟩|⟨h144,hr⟩
                      ·have T:=an h144 T
                       refine wa_ T (g:=?_)
                       exact lv T hr
                      ·have T:=an h144 T
                       refine wA T (g:=?_)
                       obtain⟨v234,h145,hr⟩:=bs hr
                       apply TO.cal (wn T) rfl lU (Spec.ov (bQ h145) (by decide)) rfl rfl rfl
                       repeat exact sd T
                       refine wa_ T (g:=?_)
                       exact lv T hr
                   ·have T:=an h137 T
                    refine wa_ T (g:=?_)
                    exact lv T hr
                  ·have T:=an h135 T
                   refine wA T (g:=?_)
                   obtain⟨⟨v235,v236,v237,v238⟩,h146,hr⟩:=bs hr
                   try dsimp only at hr
                   apply TO.lok (wn T) rfl fB (Spec.ov (aK h146) (by decide)) (vw T) rfl rfl (by simp[gE,cl,e_f,e_i,e_ii,e_iii])
                   repeat exact sd T
                   refine wa_ T (g:=?_)
                   obtain⟨⟨v239,v240,v241⟩,h147,hr⟩:=bs hr
                   try dsimp only at hr
                   apply TO.lok (wn T) rfl jT (Spec.ov (aP h147) (by decide)) (vw T) rfl rfl (by simp[gE,cl,e_f,e_i,e_ii,e_iii])
                   repeat exact sd T
                   refine wA T (g:=?_)
                   obtain⟨⟨v242,v243,v244,v245⟩,h148,hr⟩:=bs hr
                   try dsimp only at hr
                   apply TO.cal (wn T) rfl fB (Spec.ov (aK h148) (by decide)) rfl rfl rfl
                   repeat exact sd T
                   refine wa_ T (g:=?_)
                   obtain⟨⟨v246,v247,v248⟩,h149,hr⟩:=bs hr
                   try dsimp only at hr
                   apply TO.lok (wn T) rfl jT (Spec.ov (aP h149) (by decide)) (vw T) rfl rfl (by simp[gE,cl,e_f,e_i,e_ii,e_iii])
                   repeat exact sd T
                   refine wa_ T (g:=?_)
                   rcases ifs hr with⟨h150,hr⟩|⟨h150,hr⟩
                   ·have T:=an h150 T
                    refine wa_ T (g:=?_)
                    exact lv T hr
                   ·have T:=an h150 T
                    refine wa_ T (g:=?_)
                    rcases ifs hr with⟨h151,hr⟩|⟨h151,hr⟩
                    ·have T:=an h151 T
                     refine wa_ T (g:=?_)
                     exact lv T hr
                    ·have T:=an h151 T
                     refine wC T (g:=?_)
                     rcases ifs hr with⟨h152,hr⟩|⟨h152,hr⟩
                     ·have T:=an h152 T
                      refine wa_ T (g:=?_)
                      exact lv T hr
                     ·have T:=an h152 T
                      refine wA T (g:=?_)
                      obtain⟨v249,h153,hr⟩:=bs hr
                      apply TO.cal (wn T) rfl lU (Spec.ov (bQ h153) (by decide)) rfl rfl rfl
                      repeat exact sd T
                      refine wa_ T (g:=?_)
                      exact lv T hr
                 ·have T:=an h134 T
                  refine wA T (g:=?_)
                  obtain⟨⟨v250,v251,v252,v253⟩,h154,hr⟩:=bs hr
                  try dsimp only at hr
                  apply TO.lok (wn T) rfl fB (Spec.ov (aK h154) (by decide)) (vw T) rfl rfl (by simp[gE,cl,e_f,e_i,e_ii,e_iii])
                  repeat exact sd T
                  refine wa_ T (g:=?_)
                  obtain⟨⟨v254,v255,v256⟩,h155,hr⟩:=bs hr
                  try dsimp only at hr
                  apply TO.lok (wn T) rfl jT (Spec.ov (aP h155) (by decide)) (vw T) rfl rfl (by simp[gE,cl,e_f,e_i,e_ii,e_iii])
                  repeat exact sd T
                  refine wA T (g:=?_)
                  obtain⟨⟨v257,v258,v259,v260⟩,h156,hr⟩:=bs hr
                  try dsimp only at hr
                  apply TO.cal (wn T) rfl fB (Spec.ov (aK h156) (by decide)) rfl rfl rfl
                  repeat exact sd T
                  refine wa_ T (g:=?_)
                  obtain⟨⟨v261,v262,v263⟩,h157,hr⟩:=bs hr
                  try dsimp only at hr
                  apply TO.lok (wn T) rfl jT (Spec.ov (aP h157) (by decide)) (vw T) rfl rfl (by simp[gE,cl,e_f,e_i,e_ii,e_iii])
                  repeat exact sd T
                  refine wa_ T (g:=?_)
                  rcases ifs hr with⟨h158,hr⟩|⟨h158,hr⟩
                  ·have T:=an h158 T
                   refine wa_ T (g:=?_)
                   exact lv T hr
                  ·have T:=an h158 T
                   refine wa_ T (g:=?_)
                   rcases ifs hr with⟨h159,hr⟩|⟨h159,hr⟩
                   ·have T:=an h159 T
                    refine wa_ T (g:=?_)
                    exact lv T hr
                   ·have T:=an h159 T
                    refine wC T (g:=?_)
                    rcases ifs hr with⟨h160,hr⟩|⟨h160,hr⟩
                    ·have T:=an h160 T
                     refine wa_ T (g:=?_)
                     exact lv T hr
                    ·have T:=an h160 T
                     refine wA T (g:=?_)
                     obtain⟨v264,h161,hr⟩:=bs hr
                     apply TO.cal (wn T) rfl lU (Spec.ov (bQ h161) (by decide)) rfl rfl rfl
                     repeat exact sd T
                     refine wa_ T (g:=?_)
                     exact lv T hr
            ·try dsimp only
             exact wk_ T [some 0,some 1] rfl (rv (.rows .nil rfl rfl) rfl)
        ·try dsimp only
         exact wk_ T [some 0,some 1] rfl (rv (.rows .nil rfl rfl) rfl)
      ·try dsimp only
       exact wk_ T [some 1,some 0] rfl (rv (.rows .nil rfl rfl) rfl)
 ·have T:=an h2 T
  refine wa_ T (g:=?_)
  exact lv T hr
end Go.Rex
