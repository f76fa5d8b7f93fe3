/- Proofs that the program's functions do what these plain functions say. -/
import Derived.Test.YtneefkifalbplaaGreatGB
import Derived.Test.YtneefkifalbplaaGreatS
import Derived.Test.YtneefkifalbplaaGreatG1
import Derived.Test.YtneefkifalbplaaGreatG2
set_option linter.unusedSimpArgs false
set_option linter.unusedVariables false
set_option linter.defProp false
namespace Go.Rex
open Go.Proofs
open Go Go.Rex Go.RowKit
set_option maxRecDepth 100000
set_option maxHeartbeats 4000000
def y93:=an @ag24 <| an @ag26 <| an @ag28 <| an @ag3 <| an @ag36 <| an @ag47 <| an @ar37 <| an @by59 <| an @cs26 <| an @cs28 <| an @cs36 <| an @cs37 <| an @cs47 <| an @cs59 <| an @Bh <| an @Sa <| an @Yb <| an @ni32 <| an @ok26 <| an @ok28 <| an @ok36 <| an @ok37 <| an @ok47 <| an @so23 <| an @so24 <| an @so32 <| an @so37 <| an @zc47 <| an @zc59 <| @aV
theorem xQ{v1:(List (Nat×Nat))}{v2:Int}{v3:(List Int)}{v4:Int}{v5:Int}(hr:nE v1 v2 v3 v4 v5=some true){Fz:Nat→Prop}{h:List Blk}{vs:List Value}(hfz:FZ Fz h)(hargs:VLs Fz h noL [.list 2 (v1.map e_ff),.agg [.v (.int .i64 v2),.list 1 (v3.map e_i),.v (.int .i64 v4)],.v (.int .i64 v5)] vs)
 {B lo:Nat} {D:Nat→Prop} {m:NMap} {w:World} {args':List Value} (hrel:Rel B lo D m h w) (hlo:lo≤h.length) (hargs':VRs D m vs args'):Calls Tryz.prog 3 ⟨args'⟩ w (fun e w'=>e = .returned (.bool true)∧Below w.heap.size w w'):=by
 unfold nE at hr
 have T:=an y93 <| an @e_c.eq_1 <| an @e_ff.eq_1 <| @e_i.eq_1
 refine aBr follows awake_true Tryz.func3 rfl (tm0:=.list 2 (v1.map e_ff)::.agg [.v (.int .i64 v2),.list 1 (v3.map e_i),.v (.int .i64 v4)]::.v (.int .i64 v5)::.U::.U::.U::.U::.U::.U::.U::.U::.U::.U::.U::.U::.U::.U::.U::.U::.U::.U::.U::.U::.U::.U::.U::.U::.U::.U::.U::.U::.U::.U::.U::.U::.U::.U::.U::.U::.U::.U::.U::.U::.U::.U::.U::.U::.U::.U::.U::.U::.U::.U::.U::.U::.U::.U::.U::.U::.U::.U::.U::.U::.U::.U::.U::.U::.U::.U::.U::.U::.U::.U::.U::.U::.U::.U::.U::.U::.U::.U::.U::.U::.U::.U::.U::.U::.U::.U::.U::.U::.U::.U::.U::.U::.U::.U::.U::.U::.U::.U::.U::.U::.U::.U::.U::.U::.U::.U::.U::.U::.U::.U::.U::.U::.U::.U::.U::.U::.U::.U::.U::.U::.U::.U::.U::.U::.U::.U::.U::.U::.U::.U::.U::.U::.U::.U::.U::.U::.U::.U::.U::.U::.U::.U::.U::.U::.U::.U::.U::.U::.U::.U::.U::.U::.U::.U::.U::.U::.U::.U::.U::.U::.U::.U::.U::.U::.U::.U::.U::.U::.U::.U::[]) (by simp[Tryz.f3]<;>exact rfl) ?_ hfz hargs hrel hlo hargs'
 refine wb_ T (g:=?_)
 apply TO.cal (wn T) rfl aDp Spec.awake rfl rfl rfl
 repeat exact sd T
 refine wa_ T (g:=?_)
 apply TO.pop1 (wn T) (bS rfl)
 repeat exact sd T
 refine wa_ T (g:=?_)
 obtain⟨v7,h1,hr⟩:=bs hr
 apply TO.cal (wn T) rfl aDu (Spec.ov (Gb h1) (by decide)) rfl rfl rfl
 repeat exact sd T
 refine wa_ T (g:=?_)
 apply TO.pop1 (wn T) (bS rfl)
 repeat exact sd T
 refine wa_ T (g:=?_)
 rcases ifs hr with⟨h2,hr⟩|⟨h2,hr⟩
 ·have T:=an h2 T
  refine wC T (g:=?_)
  rcases ifs hr with⟨h3,hr⟩|⟨h3,hr⟩
  ·have T:=an h3 T
   refine wa_ T (g:=?_)
   exact lv T hr
  ·have T:=an h3 T
   refine wa_ T (g:=?_)
   obtain⟨v8,h4,hr⟩:=bs hr
   apply TO.cal (wn T) rfl Tr (Spec.ov (nD h4) (by decide)) rfl rfl rfl
   repeat exact sd T
   refine wa_ T (g:=?_)
   obtain⟨v9,h5,hr⟩:=bs hr
   apply TO.lok (wn T) rfl aDz (Spec.ov (yK h5) (by decide)) (vw T) rfl rfl (by simp[kL,cl,e_ff,e_c,e_i,e_ii])
   repeat exact sd T
   refine wa_ T (g:=?_)
   rcases ifs hr with⟨h6,hr⟩|⟨h6,hr⟩
   ·have T:=an h6 T
    refine wa_ T (g:=?_)
    exact lv T hr
   ·have T:=an h6 T
    refine wA T (g:=?_)
    obtain⟨v10,h7,hr⟩:=bs hr
    apply TO.cal (wn T) rfl aDc (Spec.ov (xR h7) (by decide)) rfl rfl rfl
    repeat exact sd T
    refine wa_ T (g:=?_)
    rcases ifs hr with⟨h8,hr⟩|⟨h8,hr⟩
    ·have T:=an h8 T
     refine wa_ T (g:=?_)
     exact lv T hr
    ·have T:=an h8 T
     refine wA T (g:=?_)
     obtain⟨v11,h9,hr⟩:=bs hr
     apply TO.cal (wn T) rfl aC9 (Spec.ov (wV h9) (by decide)) rfl rfl rfl
     repeat exact sd T
     refine wa_ T (g:=?_)
     apply TO.pop1 (wn T) (bS rfl)
     repeat exact sd T
     refine wa_ T (g:=?_)
     rcases ifs hr with⟨h10,hr⟩|⟨h10,hr⟩
     ·have T:=an h10 T
      refine wa_ T (g:=?_)
      obtain⟨v17,h23,hr⟩:=bs hr
      refine TX.loopE (step:=cQ v1) (x:=0) h23 (fun v12=>⟨.list 2 (v1.map e_ff)::.U::.v (.int .i64 v5)::.U::.fptr true [.v (.int .i64 v2),.list 1 (v3.map e_i),.v (.int .i64 v4)] 0::.U::.U::.v (.int .i64 v12)::.U::.U::.U::.U::.U::.U::.U::.U::.U::.U::.U::.U::.U::.U::.U::.U::.U::.U::.U::.U::.U::.U::.U::.U::.U::.U::.U::.U::.U::.U::.U::.U::.U::.U::.U::.U::.U::.U::.U::.U::.U::.U::.U::.U::.U::.U::.U::.U::.U::.U::.U::.U::.U::.U::.U::.U::.U::.U::.U::.U::.U::.U::.U::.U::.U::.U::.U::.U::.U::.U::.U::.U::.U::.U::.U::.U::.U::.U::.U::.U::.U::.U::.U::.U::.U::.U::.U::.U::.U::.U::.U::.U::.U::.U::.U::.U::.U::.U::.U::.U::.U::.U::.U::.U::.U::.U::.U::.U::.U::.U::.U::.U::.U::.U::.U::.U::.U::.U::.U::.U::.U::.U::.U::.U::.U::.U::.U::.U::.U::.U::.U::.U::.U::.U::.U::.U::.U::.U::.U::.U::.U::.U::.U::.U::.U::.U::.U::.U::.U::.U::.U::.U::.U::.U::.U::.U::.U::.U::.U::.U::.U::.U::.U::.U::.U::[],[]⟩) (fun e=>match e with|(.inl _)=>(.ret,⟨.U::.U::.U::.U::.U::.U::.v (.bool true)::.U::.U::.U::.U::.U::.U::.U::.U::.U::.U::.U::.U::.U::.U::.U::.U::.U::.U::.U::.U::.U::.U::.U::.U::.U::.U::.U::.U::.U::.U::.U::.U::.U::.U::.U::.U::.U::.U::.U::.U::.U::.U::.U::.U::.U::.U::.U::.U::.U::.U::.U::.U::.U::.U::.U::.U::.U::.U::.U::.U::.U::.U::.U::.U::.U::.U::.U::.U::.U::.U::.U::.U::.U::.U::.U::.U::.U::.U::.U::.U::.U::.U::.U::.U::.U::.U::.U::.U::.U::.U::.U::.U::.U::.U::.U::.U::.U::.U::.U::.U::.U::.U::.U::.U::.U::.U::.U::.U::.U::.U::.U::.U::.U::.U::.U::.U::.U::.U::.U::.U::.U::.U::.U::.U::.U::.U::.U::.U::.U::.U::.U::.U::.U::.U::.U::.U::.U::.U::.U::.U::.U::.U::.U::.U::.U::.U::.U::.U::.U::.U::.U::.U::.U::.U::.U::.U::.U::.U::.U::.U::.U::.U::.U::.U::.U::.U::[],[]⟩)|(.inr _)=>(.exit 0,⟨.list 2 (v1.map e_ff)::.U::.v (.int .i64 v5)::.U::.fptr true [.v (.int .i64 v2),.list 1 (v3.map e_i),.v (.int .i64 v4)] 0::.U::.U::.U::.U::.U::.U::.U::.U::.U::.U::.U::.U::.U::.U::.U::.U::.U::.U::.U::.U::.U::.U::.U::.U::.U::.U::.U::.U::.U::.U::.U::.U::.U::.U::.U::.U::.U::.U::.U::.U::.U::.U::.U::.U::.U::.U::.U::.U::.U::.U::.U::.U::.U::.U::.U::.U::.U::.U::.U::.U::.U::.U::.U::.U::.U::.U::.U::.U::.U::.U::.U::.U::.U::.U::.U::.U::.U::.U::.U::.U::.U::.U::.U::.U::.U::.U::.U::.U::.U::.U::.U::.U::.U::.U::.U::.U::.U::.U::.U::.U::.U::.U::.U::.U::.U::.U::.U::.U::.U::.U::.U::.U::.U::.U::.U::.U::.U::.U::.U::.U::.U::.U::.U::.U::.U::.U::.U::.U::.U::.U::.U::.U::.U::.U::.U::.U::.U::.U::.U::.U::.U::.U::.U::.U::.U::.U::.U::.U::.U::.U::.U::.U::.U::.U::.U::.U::.U::.U::.U::.U::.U::.U::.U::.U::.U::.U::.U::.U::[],[]⟩)) ?_ ?_ ?_ ?_
      ·rintro v12 v0 hr
       dsimp only[cQ] at hr
       try dsimp only
       refine wc_ T (g:=?_)
       rcases ifs hr with⟨h17,hr⟩|⟨h17,hr⟩
       ·have T:=an h17 T
        refine wa_ T (g:=?_)
        obtain⟨⟨v15,v16⟩,h18,hr⟩:=bs hr
        try dsimp only at hr
        have T:=an (gx e_ff h18) T
        refine wI T (g:=?_)
        apply TO.pop1 (wn T) (eS rfl rfl (by decide))
        repeat exact sd T
        refine wa_ T (g:=?_)
        rcases ifs hr with⟨h19,hr⟩|⟨h19,hr⟩
        ·have T:=an h19 T
         refine wa_ T (g:=?_)
         cases hr
         refine⟨rfl,?_⟩
         exact wk_ T [] rfl .nil
        ·have T:=an h19 T
         refine wI T (g:=?_)
         apply TO.pop1 (wn T) (eS rfl rfl (by decide))
         repeat exact sd T
         refine wa_ T (g:=?_)
         rcases ifs hr with⟨h20,hr⟩|⟨h20,hr⟩
         ·have T:=an h20 T
          refine wa_ T (g:=?_)
          cases hr
          refine⟨rfl,?_⟩
          exact wk_ T [] rfl .nil
         ·have T:=an h20 T
          refine wI T (g:=?_)
          apply TO.pop1 (wn T) (eS rfl rfl (by decide))
          repeat exact sd T
          refine wa_ T (g:=?_)
          rcases ifs hr with⟨h21,hr⟩|⟨h21,hr⟩
          ·have T:=an h21 T
           refine wa_ T (g:=?_)
           cases hr
           refine⟨rfl,?_⟩
           exact wk_ T [] rfl .nil
          ·have T:=an h21 T
           refine wI T (g:=?_)
           apply TO.pop1 (wn T) (eS rfl rfl (by decide))
           repeat exact sd T
           refine wa_ T (g:=?_)
           rcases ifs hr with⟨h22,hr⟩|⟨h22,hr⟩
           ·have T:=an h22 T
            refine wa_ T (g:=?_)
            cases hr
            refine⟨rfl,?_⟩
            exact wk_ T [] rfl .nil
           ·have T:=an h22 T
            refine wa_ T (g:=?_)
            cases hr
            refine⟨rfl,?_⟩
            exact wk_ T [] rfl .nil
       ·have T:=an h17 T
        refine wa_ T (g:=?_)
        cases hr
        refine⟨rfl,?_⟩
        exact wk_ T [] rfl .nil
      ·intro e h;rcases e with _|e<;>cases h
      ·try dsimp only
       rcases v17 with _|_
       ·try dsimp only at hr
        try dsimp only
        refine wa_ T (g:=?_)
        exact lv T hr
       ·try dsimp only at hr
        try dsimp only
        refine wA T (g:=?_)
        obtain⟨v18,h24,hr⟩:=bs hr
        apply TO.cal (wn T) rfl Sk (Spec.ov (qJ h24) (by decide)) rfl rfl rfl
        repeat exact sd T
        refine wa_ T (g:=?_)
        obtain⟨v19,h25,hr⟩:=bs hr
        first|apply TD.cal (wn T) rfl Tr (Spec.ov (nD h25) (by decide)) rfl rfl rfl|apply TD.calF (by decide +kernel) (wn T) rfl Tr (Spec.ov (nD h25) (by decide)) rfl rfl rfl rfl
        repeat exact sd T
        refine wA T (g:=?_)
        obtain⟨⟨v20,v21⟩,h26,hr⟩:=bs hr
        try dsimp only at hr
        first|apply TD.cal (wn T) rfl Fn (Spec.ov (kQ h26) (by decide)) rfl rfl rfl|apply TD.calF (by decide +kernel) (wn T) rfl Fn (Spec.ov (kQ h26) (by decide)) rfl rfl rfl rfl
        repeat exact sd T
        refine wA T (g:=?_)
        obtain⟨⟨v22,v23⟩,h27,hr⟩:=bs hr
        try dsimp only at hr
        first|apply TD.lok (wn T) rfl aAu (Spec.ov (rJ h27) (by decide)) (vw T) rfl rfl (by simp[kL,cl,e_ff,e_c,e_i,e_ii])|apply TD.lokw (wn T) rfl aAu (Spec.ov (rJ h27) (by decide)) (vw T) rfl rfl (by simp[kL,cl,e_ff,e_c,e_i,e_ii]) rfl
        repeat exact sd T
        refine wa_ T (g:=?_)
        obtain⟨v24,h28,hr⟩:=bs hr
        apply TO.cal (wn T) rfl Tr (Spec.ov (nD h28) (by decide)) rfl rfl rfl
        repeat exact sd T
        refine wa_ T (g:=?_)
        obtain⟨⟨v25,v26⟩,h29,hr⟩:=bs hr
        try dsimp only at hr
        apply TO.lok (wn T) rfl aCF (Spec.ov (zU h29) (by decide)) (vw T) rfl rfl (by simp[kL,cl,e_ff,e_c,e_i,e_ii])
        repeat exact sd T
        refine wa_ T (g:=?_)
        rcases ifs hr with⟨h30,hr⟩|⟨h30,hr⟩
        ·have T:=an h30 T
         refine wa_ T (g:=?_)
         rcases ifs hr with⟨h31,hr⟩|⟨h31,hr⟩
         ·have T:=an h31 T
          refine wa_ T (g:=?_)
          exact lv T hr
         ·have T:=an h31 T
          refine wa_ T (g:=?_)
          exact lv T hr
        ·have T:=an h30 T
         refine wa_ T (g:=?_)
         rcases ifs hr with⟨h32,hr⟩|⟨h32,hr⟩
         ·have T:=an h32 T
          refine wa_ T (g:=?_)
          rcases ifs hr with⟨h33,hr⟩|⟨h33,hr⟩
          ·have T:=an h33 T
           refine wa_ T (g:=?_)
           exact lv T hr
          ·have T:=an h33 T
           refine wa_ T (g:=?_)
           exact lv T hr
         ·have T:=an h32 T
          refine wa_ T (g:=?_)
          apply TD.bl e_c ([]:List (Nat×Nat)) (wn T) rfl (by simp only[zz,y93,e_c,e_ff,e_i,Nat.reduceAdd,Nat.reduceMul,Nat.reduceLeDiff,Nat.reduceEqDiff,tslice,tparts,h2,h3,h6,h8,h10,h30,h32];exact rfl) rfl rfl
          repeat exact sd T
          refine wa_ T (g:=?_)
          apply TD.frz 2 rfl rfl
          repeat exact sd T
          refine wa_ T (g:=?_)
          obtain⟨v27,h34,hr⟩:=bs hr
          apply TD.apf (f:=e_c) (xs:=([]:List (Nat×Nat))) (ys:=v22) (wn T) rfl rfl (by first|rfl|simp only[List.length_set]) rfl rfl so32 ni32 zc59 rfl (by rw[by59];exact h34) (fun _=>⟨rfl,rfl,rfl⟩) rfl
          repeat exact sd T
          refine wJ T (g:=?_)
          obtain⟨⟨v28,v29⟩,h35,hr⟩:=bs hr
          try dsimp only at hr
          first|apply TD.cal (wn T) rfl Fn (Spec.ov (kQ h35) (by decide)) rfl rfl rfl|apply TD.calF (by decide +kernel) (wn T) rfl Fn (Spec.ov (kQ h35) (by decide)) rfl rfl rfl rfl
          repeat exact sd T
          refine wJ T (g:=?_)
          obtain⟨⟨v30,v31⟩,h36,hr⟩:=bs hr
          try dsimp only at hr
          first|apply TD.lok (wn T) rfl aAq (Spec.ov (qQ h36) (by decide)) (vw T) rfl rfl (by simp[kL,cl,e_ff,e_c,e_i,e_ii])|apply TD.lokw (wn T) rfl aAq (Spec.ov (qQ h36) (by decide)) (vw T) rfl rfl (by simp[kL,cl,e_ff,e_c,e_i,e_ii]) rfl
          repeat exact sd T
          refine wa_ T (g:=?_)
          rcases ifs hr with⟨h37,hr⟩|⟨h37,hr⟩
          ·have T:=an h37 T
           refine wa_ T (g:=?_)
           exact lv T hr
          ·have T:=an h37 T
           refine wa_ T (g:=?_)
           obtain⟨v32,h38,hr⟩:=bs hr
           apply TO.lok (wn T) rfl Xz (Spec.ov (oU h38) (by decide)) (vw T) rfl rfl (by simp[kL,cl,e_ff,e_c,e_i,e_ii])
           repeat exact sd T
           refine wa_ T (g:=?_)
           apply TO.pop1 (wn T) (bS rfl)
           repeat exact sd T
           refine wa_ T (g:=?_)
           rcases ifs hr with⟨h39,hr⟩|⟨h39,hr⟩
           ·have T:=an h39 T
            refine wa_ T (g:=?_)
            obtain⟨v33,h40,hr⟩:=bs hr
            apply TO.cal (wn T) rfl yV (Spec.ov (fH h40) (by decide)) rfl rfl rfl
            repeat exact sd T
            refine wa_ T (g:=?_)
            apply TO.pop1 (wn T) (bS rfl)
            repeat exact sd T
            refine wa_ T (g:=?_)
            rcases ifs hr with⟨h41,hr⟩|⟨h41,hr⟩
            ·have T:=an h41 T
             refine wa_ T (g:=?_)
             obtain⟨⟨v34,v35,v36,v37⟩,h42,hr⟩:=bs hr
             try dsimp only at hr
             apply TO.cal (wn T) rfl aCV (Spec.ov (yC h42) (by decide)) rfl rfl rfl
             repeat exact sd T
             refine wa_ T (g:=?_)
             rcases ifs hr with⟨h43,hr⟩|⟨h43,hr⟩
             ·have T:=an h43 T
              refine wa_ T (g:=?_)
              exact lv T hr
             ·have T:=an h43 T
              refine wA T (g:=?_)
              obtain⟨v38,h44,hr⟩:=bs hr
              apply TO.cal (wn T) rfl aCh (Spec.ov (uZ h44) (by decide)) rfl rfl rfl
              repeat exact sd T
              refine wa_ T (g:=?_)
              rcases ifs hr with⟨h45,hr⟩|⟨h45,hr⟩
              ·have T:=an h45 T
               refine wa_ T (g:=?_)
               exact lv T hr
              ·have T:=an h45 T
               refine wa_ T (g:=?_)
               apply TD.bl e_c ([]:List (Nat×Nat)) (wn T) rfl (by simp only[zz,y93,e_c,e_ff,e_i,Nat.reduceAdd,Nat.reduceMul,Nat.reduceLeDiff,Nat.reduceEqDiff,tslice,tparts,h2,h3,h6,h8,h10,h30,h32,h37,h39,h41,h43,h45];exact rfl) rfl rfl
               repeat exact sd T
               refine wa_ T (g:=?_)
               obtain⟨v39,h46,hr⟩:=bs hr
               apply TD.apf (f:=e_c) (xs:=([]:List (Nat×Nat))) (ys:=v22) (wn T) rfl rfl (by first|rfl|simp only[List.length_set]) rfl rfl so32 ni32 zc59 rfl (by rw[by59];exact h46) (fun _=>⟨rfl,rfl,rfl⟩) rfl
               repeat exact sd T
               refine wJ T (g:=?_)
               obtain⟨⟨v40,v41,v42⟩,h47,hr⟩:=bs hr
               try dsimp only at hr
               first|apply TD.cal (wn T) rfl Zf (Spec.ov (sY h47) (by decide)) rfl rfl rfl|apply TD.calF (by decide +kernel) (wn T) rfl Zf (Spec.ov (sY h47) (by decide)) rfl rfl rfl rfl
               repeat exact sd T
               refine wJ T (g:=?_)
               obtain⟨⟨v43,v44⟩,h48,hr⟩:=bs hr
               try dsimp only at hr
               first|apply TD.lok (wn T) rfl aAP (Spec.ov (oV h48) (by decide)) (vw T) rfl rfl (by simp[kL,cl,e_ff,e_c,e_i,e_ii])|apply TD.lokw (wn T) rfl aAP (Spec.ov (oV h48) (by decide)) (vw T) rfl rfl (by simp[kL,cl,e_ff,e_c,e_i,e_ii]) rfl
               repeat exact sd T
               refine wa_ T (g:=?_)
               rcases ifs hr with⟨h49,hr⟩|⟨h49,hr⟩
               ·have T:=an h49 T
                refine wa_ T (g:=?_)
                obtain⟨v45,h50,hr⟩:=bs hr
                apply TO.lok (wn T) rfl Xz (Spec.ov (oU h50) (by decide)) (vw T) rfl rfl (by simp[kL,cl,e_ff,e_c,e_i,e_ii])
                repeat exact sd T
                refine wa_ T (g:=?_)
                exact lv T hr
               ·have T:=an h49 T
                refine wa_ T (g:=?_)
                exact lv T hr
            ·have T:=an h41 T
             refine wa_ T (g:=?_)
             exact lv T hr
           ·have T:=an h39 T
            refine wa_ T (g:=?_)
            exact lv T hr
      ·try dsimp only
       exact wk_ T [] rfl .nil
     ·have T:=an h10 T
      refine wa_ T (g:=?_)
      exact lv T hr
 ·have T:=an h2 T
  refine wa_ T (g:=?_)
  exact lv T hr
end Go.Rex
