/- Proofs that the program's functions do what these plain functions say. -/
import Derived.Test.YtneefkifalbplaaGB
import Derived.Test.YtneefkifalbplaaS
import Derived.Test.YtneefkifalbplaaG1
import Derived.Test.YtneefkifalbplaaG2
set_option linter.unusedSimpArgs false
set_option linter.unusedVariables false
set_option linter.defProp false
namespace Go.Rex
open Go.Proofs
open Go Go.Rex Go.RowKit
set_option maxRecDepth 100000
set_option maxHeartbeats 4000000
def y87:=an @ag25 <| an @ag27 <| an @ag3 <| an @ag36 <| an @cs25 <| an @cs27 <| an @cs36 <| an @Ka <| an @Pv <| an @ok25 <| an @ok27 <| an @ok36 <| an @so22 <| an @so32 <| @zc36
theorem rQ{v1:(List (Int×Int))}{v2:Int}{v3:(List Int)}{v4:Int}{v5:Int}(hr:iU v1 v2 v3 v4 v5=some true){Fz:Nat→Prop}{h:List Blk}{vs:List Value}(hfz:FZ Fz h)(hargs:VLs Fz h noL [.list 2 (v1.map e_ii),.agg [.v (.int .i64 v2),.list 1 (v3.map e_i),.v (.int .i64 v4)],.v (.int .i64 v5)] vs)
 {B lo:Nat} {D:Nat→Prop} {m:NMap} {w:World} {args':List Value} (hrel:Rel B lo D m h w) (hlo:lo≤h.length) (hargs':VRs D m vs args'):Calls Try.prog 3 ⟨args'⟩ w (fun e w'=>e = .returned (.bool true)∧Below w.heap.size w w'):=by
 unfold iU at hr
 have T:=an y87 <| an @e_i.eq_1 <| @e_ii.eq_1
 refine aAM follows awake_true Try.func3 rfl (tm0:=.list 2 (v1.map e_ii)::.agg [.v (.int .i64 v2),.list 1 (v3.map e_i),.v (.int .i64 v4)]::.v (.int .i64 v5)::.U::.U::.U::.U::.U::.U::.U::.U::.U::.U::.U::.U::.U::.U::.U::.U::.U::.U::.U::.U::.U::.U::.U::.U::.U::.U::.U::.U::.U::.U::.U::.U::.U::.U::.U::.U::.U::.U::.U::.U::.U::.U::.U::.U::.U::.U::.U::.U::.U::.U::.U::.U::.U::.U::.U::.U::.U::.U::.U::.U::.U::.U::.U::.U::.U::.U::.U::.U::.U::.U::.U::.U::.U::.U::.U::.U::.U::.U::.U::.U::.U::.U::.U::.U::.U::.U::.U::.U::.U::.U::.U::.U::.U::.U::.U::.U::.U::.U::.U::.U::.U::.U::.U::.U::.U::.U::.U::.U::.U::.U::.U::.U::.U::.U::.U::.U::.U::.U::.U::.U::.U::.U::.U::.U::.U::.U::.U::.U::.U::.U::.U::.U::.U::.U::.U::.U::.U::.U::.U::.U::.U::.U::[]) (by simp[Try.f3]<;>exact rfl) ?_ hfz hargs hrel hlo hargs'
 refine wb_ T (g:=?_)
 apply TO.cal (wn T) rfl aCQ Spec.awake rfl rfl rfl
 repeat exact sd T
 refine wa_ T (g:=?_)
 apply TO.pop1 (wn T) (dM rfl)
 repeat exact sd T
 refine wc_ T (g:=?_)
 rcases ifs hr with⟨h1,hr⟩|⟨h1,hr⟩
 ·have T:=an h1 T
  refine wa_ T (g:=?_)
  exact lv T hr
 ·have T:=an h1 T
  refine wc_ T (g:=?_)
  rcases ifs hr with⟨h2,hr⟩|⟨h2,hr⟩
  ·have T:=an h2 T
   refine wa_ T (g:=?_)
   exact lv T hr
  ·have T:=an h2 T
   refine wA T (g:=?_)
   obtain⟨v7,h3,hr⟩:=bs hr
   apply TO.cal (wn T) rfl aCY (Spec.ov (uC h3) (by decide)) rfl rfl rfl
   repeat exact sd T
   refine wa_ T (g:=?_)
   apply TO.pop1 (wn T) (dM rfl)
   repeat exact sd T
   refine wa_ T (g:=?_)
   rcases ifs hr with⟨h4,hr⟩|⟨h4,hr⟩
   ·have T:=an h4 T
    refine wC T (g:=?_)
    obtain⟨v8,h5,hr⟩:=bs hr
    apply TO.cal (wn T) rfl Zt (Spec.ov (pG h5) (by decide)) rfl rfl rfl
    repeat exact sd T
    refine wa_ T (g:=?_)
    rcases ifs hr with⟨h6,hr⟩|⟨h6,hr⟩
    ·have T:=an h6 T
     refine wa_ T (g:=?_)
     exact lv T hr
    ·have T:=an h6 T
     refine wa_ T (g:=?_)
     obtain⟨v9,h7,hr⟩:=bs hr
     apply TO.cal (wn T) rfl Hg (Spec.ov (gG h7) (by decide)) rfl rfl rfl
     repeat exact sd T
     refine wa_ T (g:=?_)
     apply TO.pop1 (wn T) (dM rfl)
     repeat exact sd T
     refine wa_ T (g:=?_)
     rcases ifs hr with⟨h8,hr⟩|⟨h8,hr⟩
     ·have T:=an h8 T
      refine wa_ T (g:=?_)
      obtain⟨⟨v10,v11⟩,h9,hr⟩:=bs hr
      try dsimp only at hr
      apply TO.cal (wn T) rfl aCH (Spec.ov (uA h9) (by decide)) rfl rfl rfl
      repeat exact sd T
      refine wa_ T (g:=?_)
      apply TO.pop1 (wn T) (dM rfl)
      repeat exact sd T
      refine wa_ T (g:=?_)
      rcases ifs hr with⟨h10,hr⟩|⟨h10,hr⟩
      ·have T:=an h10 T
       refine wc_ T (g:=?_)
       obtain⟨⟨v12,v13,v14,v15⟩,h11,hr⟩:=bs hr
       try dsimp only at hr
       apply TO.cal (wn T) rfl aC1 (Spec.ov (xF h11) (by decide)) rfl rfl rfl
       repeat exact sd T
       refine wa_ T (g:=?_)
       obtain⟨v16,h12,hr⟩:=bs hr
       apply TD.lok (wn T) rfl Qe (Spec.ov (mN h12) (by decide)) (vw T) rfl rfl (by simp[nA,cl,e_i,e_c,e_ii])
       repeat exact sd T
       refine wA T (g:=?_)
       obtain⟨⟨v17,v18⟩,h13,hr⟩:=bs hr
       try dsimp only at hr
       apply TD.cal (wn T) rfl Ki (Spec.ov (mE h13) (by decide)) rfl rfl rfl
       repeat exact sd T
       refine wA T (g:=?_)
       obtain⟨⟨v19,v20⟩,h14,hr⟩:=bs hr
       try dsimp only at hr
       apply TD.lok (wn T) rfl aBS (Spec.ov (wG h14) (by decide)) (vw T) rfl rfl (by simp[nA,cl,e_i,e_c,e_ii])
       repeat exact sd T
       refine wa_ T (g:=?_)
       obtain⟨v21,h15,hr⟩:=bs hr
       apply TD.lok (wn T) rfl Qe (Spec.ov (mN h15) (by decide)) (vw T) rfl rfl (by simp[nA,cl,e_i,e_c,e_ii])
       repeat exact sd T
       refine wA T (g:=?_)
       obtain⟨⟨v22,v23,v24⟩,h16,hr⟩:=bs hr
       try dsimp only at hr
       apply TD.cal (wn T) rfl aB2 (Spec.ov (wE h16) (by decide)) rfl rfl rfl
       repeat exact sd T
       refine wA T (g:=?_)
       obtain⟨⟨v25,v26⟩,h17,hr⟩:=bs hr
       try dsimp only at hr
       apply TD.lok (wn T) rfl aCj (Spec.ov (tY h17) (by decide)) (vw T) rfl rfl (by simp[nA,cl,e_i,e_c,e_ii])
       repeat exact sd T
       refine wa_ T (g:=?_)
       rcases ifs hr with⟨h18,hr⟩|⟨h18,hr⟩
       ·have T:=an h18 T
        refine wa_ T (g:=?_)
        exact lv T hr
       ·have T:=an h18 T
        refine wa_ T (g:=?_)
        rcases ifs hr with⟨h19,hr⟩|⟨h19,hr⟩
        ·have T:=an h19 T
         refine wa_ T (g:=?_)
         exact lv T hr
        ·have T:=an h19 T
         refine wc_ T (g:=?_)
         rcases ifs hr with⟨h20,hr⟩|⟨h20,hr⟩
         ·have T:=an h20 T
          refine wa_ T (g:=?_)
          exact lv T hr
         ·have T:=an h20 T
          refine wa_ T (g:=?_)
          rcases ifs hr with⟨h21,hr⟩|⟨h21,hr⟩
          ·have T:=an h21 T
           refine wa_ T (g:=?_)
           obtain⟨v27,h22,hr⟩:=bs hr
           apply TD.lok (wn T) rfl Qe (Spec.ov (mN h22) (by decide)) (vw T) rfl rfl (by simp[nA,cl,e_i,e_c,e_ii])
           repeat exact sd T
           refine wA T (g:=?_)
           obtain⟨⟨v28,v29⟩,h23,hr⟩:=bs hr
           try dsimp only at hr
           apply TD.cal (wn T) rfl Ki (Spec.ov (mE h23) (by decide)) rfl rfl rfl
           repeat exact sd T
           refine wA T (g:=?_)
           obtain⟨⟨v30,v31⟩,h24,hr⟩:=bs hr
           try dsimp only at hr
           apply TD.lok (wn T) rfl Yj (Spec.ov (qJ h24) (by decide)) (vw T) rfl rfl (by simp[nA,cl,e_i,e_c,e_ii])
           repeat exact sd T
           refine wa_ T (g:=?_)
           rcases ifs hr with⟨h25,hr⟩|⟨h25,hr⟩
           ·have T:=an h25 T
            refine wa_ T (g:=?_)
            obtain⟨v32,h26,hr⟩:=bs hr
            apply TO.lok (wn T) rfl Qj (Spec.ov (kM h26) (by decide)) (vw T) rfl rfl (by simp[nA,cl,e_i,e_c,e_ii])
            repeat exact sd T
            refine wa_ T (g:=?_)
            rcases ifs hr with⟨h27,hr⟩|⟨h27,hr⟩
            ·have T:=an h27 T
             refine wa_ T (g:=?_)
             obtain⟨v33,h28,hr⟩:=bs hr
             apply TO.lok (wn T) rfl Qj (Spec.ov (kM h28) (by decide)) (vw T) rfl rfl (by simp[nA,cl,e_i,e_c,e_ii])
             repeat exact sd T
             refine wa_ T (g:=?_)
             exact lv T hr
            ·have T:=an h27 T
             refine wa_ T (g:=?_)
             exact lv T hr
           ·have T:=an h25 T
            refine wa_ T (g:=?_)
            exact lv T hr
          ·have T:=an h21 T
           refine wA T (g:=?_)
           obtain⟨⟨v34,v35⟩,h29,hr⟩:=bs hr
           try dsimp only at hr
           apply TD.cal (wn T) rfl Ki (Spec.ov (mE h29) (by decide)) rfl rfl rfl
           repeat exact sd T
           refine wA T (g:=?_)
           obtain⟨⟨v36,v37⟩,h30,hr⟩:=bs hr
           try dsimp only at hr
           apply TD.lok (wn T) rfl Yj (Spec.ov (qJ h30) (by decide)) (vw T) rfl rfl (by simp[nA,cl,e_i,e_c,e_ii])
           repeat exact sd T
           refine wa_ T (g:=?_)
           rcases ifs hr with⟨h31,hr⟩|⟨h31,hr⟩
           ·have T:=an h31 T
            refine wa_ T (g:=?_)
            rcases ifs hr with⟨h32,hr⟩|⟨h32,hr⟩
            ·have T:=an h32 T
             refine wa_ T (g:=?_)
             exact lv T hr
            ·have T:=an h32 T
             refine wa_ T (g:=?_)
             rcases ifs hr with⟨h33,hr⟩|⟨h33,hr⟩
             ·have T:=an h33 T
              refine wa_ T (g:=?_)
              obtain⟨v38,h34,hr⟩:=bs hr
              apply TO.lok (wn T) rfl Qj (Spec.ov (kM h34) (by decide)) (vw T) rfl rfl (by simp[nA,cl,e_i,e_c,e_ii])
              repeat exact sd T
              refine wa_ T (g:=?_)
              apply TO.pop1 (wn T) (dM rfl)
              repeat exact sd T
              refine wa_ T (g:=?_)
              exact lv T hr
             ·have T:=an h33 T
              refine wa_ T (g:=?_)
              exact lv T hr
           ·have T:=an h31 T
            refine wa_ T (g:=?_)
            exact lv T hr
      ·have T:=an h10 T
       refine wa_ T (g:=?_)
       exact lv T hr
     ·have T:=an h8 T
      refine wa_ T (g:=?_)
      exact lv T hr
   ·have T:=an h4 T
    refine wa_ T (g:=?_)
    exact lv T hr
end Go.Rex
