/- Proofs that the program's functions do what these plain functions say. -/
import Derived.Test.YtneefkifalbplaaGreatGB
import Derived.Test.YtneefkifalbplaaGreatS
import Derived.Test.YtneefkifalbplaaGreatG1
import Derived.Test.YtneefkifalbplaaGreatG2
set_option linter.unusedSimpArgs false
set_option linter.unusedVariables false
set_option linter.defProp false
namespace Go.Rex
open Go.Proofs
open Go Go.Rex Go.RowKit
set_option maxRecDepth 100000
set_option maxHeartbeats 4000000
def y88:=an @ag26 <| an @ag28 <| an @ag3 <| an @ag59 <| an @ag64 <| an @ar65 <| an @ar72 <| an @cs26 <| an @cs28 <| an @cs3 <| an @cs32 <| an @cs59 <| an @cs64 <| an @cs65 <| an @cs72 <| an @Zf <| an @Xg <| an @ok26 <| an @ok28 <| an @ok3 <| an @ok59 <| an @ok64 <| an @ok65 <| an @ok72 <| an @so32 <| an @so54 <| an @so61 <| an @so65 <| an @so72 <| an @st71 <| an @zc32 <| an @zc65 <| an @zc71 <| an @aV <| @kZ
theorem qW{v1:(List (Int×Int))}{v2:Int}{v3:(List Int)}{v4:Int}{v5:(List (Int×Int))}(hr:gE v1 v2 v3 v4 v5=some true){Fz:Nat→Prop}{h:List Blk}{vs:List Value}(hfz:FZ Fz h)(hargs:VLs Fz h noL [.list 2 (v1.map e_ii),.agg [.v (.int .i64 v2),.list 1 (v3.map e_i),.v (.int .i64 v4)],.list 2 (v5.map e_ii)] vs)
 {B lo:Nat} {D:Nat→Prop} {m:NMap} {w:World} {args':List Value} (hrel:Rel B lo D m h w) (hlo:lo≤h.length) (hargs':VRs D m vs args'):Calls Tryz.prog 4 ⟨args'⟩ w (fun e w'=>e = .returned (.bool true)∧Below w.heap.size w w'):=by
 unfold gE at hr
 have T:=an y88 <| an @e_Lc_.eq_1 <| an @e_c.eq_1 <| an @e_f.eq_1 <| an @e_i.eq_1 <| @e_ii.eq_1
 refine aAy follows awake_true Tryz.func4 rfl (tm0:=.list 2 (v1.map e_ii)::.agg [.v (.int .i64 v2),.list 1 (v3.map e_i),.v (.int .i64 v4)]::.list 2 (v5.map e_ii)::.Z::.Z::.Z::.Z::.Z::.Z::.Z::.Z::.Z::.Z::.Z::.Z::.Z::.Z::.Z::.Z::.Z::.Z::.Z::.Z::.Z::.Z::.Z::.Z::.Z::.Z::.Z::.Z::.Z::.Z::.Z::.Z::.Z::.Z::.Z::.Z::.Z::.Z::.Z::.Z::.Z::.Z::.Z::.Z::.Z::.Z::.Z::.Z::.Z::.Z::.Z::.Z::.Z::.Z::.Z::.Z::.Z::.Z::.Z::.Z::.Z::.Z::.Z::.Z::.Z::.Z::.Z::.Z::.Z::.Z::.Z::.Z::.Z::.Z::.Z::.Z::.Z::.Z::.Z::.Z::.Z::.Z::.Z::.Z::.Z::.Z::.Z::.Z::.Z::.Z::.Z::.Z::.Z::.Z::.Z::.Z::.Z::.Z::.Z::.Z::.Z::.Z::.Z::.Z::.Z::.Z::.Z::.Z::.Z::.Z::.Z::.Z::.Z::.Z::.Z::.Z::.Z::.Z::.Z::.Z::.Z::.Z::.Z::.Z::.Z::.Z::.Z::.Z::.Z::.Z::.Z::.Z::.Z::.Z::.Z::.Z::.Z::.Z::.Z::.Z::.Z::.Z::.Z::.Z::.Z::.Z::.Z::.Z::.Z::.Z::.Z::.Z::.Z::.Z::.Z::.Z::.Z::.Z::.Z::.Z::.Z::.Z::.Z::.Z::.Z::.Z::.Z::.Z::.Z::.Z::.Z::.Z::.Z::.Z::.Z::.Z::.Z::.Z::.Z::.Z::.Z::.Z::.Z::.Z::.Z::.Z::.Z::.Z::.Z::.Z::.Z::.Z::.Z::.Z::.Z::.Z::.Z::.Z::.Z::.Z::.Z::.Z::.Z::.Z::.Z::.Z::.Z::.Z::.Z::.Z::.Z::.Z::.Z::.Z::.Z::.Z::.Z::[]) (by simp[Tryz.f4]<;>exact rfl) ?_ hfz hargs hrel hlo hargs'
 refine wb_ T (g:=?_)
 apply TO.cal (wn T) rfl aBP Spec.awake rfl rfl rfl
 repeat exact sd T
 refine wa_ T (g:=?_)
 apply TO.pop1 (wn T) (dG rfl)
 repeat exact sd T
 refine wc_ T (g:=?_)
 rcases ifs hr with⟨h1,hr⟩|⟨h1,hr⟩
 ·have T:=an h1 T
  refine wa_ T (g:=?_)
  exact lv T hr
 ·have T:=an h1 T
  refine wc_ T (g:=?_)
  rcases ifs hr with⟨h2,hr⟩|⟨h2,hr⟩
  ·have T:=an h2 T
   refine wa_ T (g:=?_)
   exact lv T hr
  ·have T:=an h2 T
   refine wc_ T (g:=?_)
   rcases ifs hr with⟨h3,hr⟩|⟨h3,hr⟩
   ·have T:=an h3 T
    refine wa_ T (g:=?_)
    exact lv T hr
   ·have T:=an h3 T
    refine wA T (g:=?_)
    obtain⟨v7,h4,hr⟩:=bs hr
    apply TO.cal (wn T) rfl aCn (Spec.ov (uK h4) (by decide)) rfl rfl rfl
    repeat exact sd T
    refine wa_ T (g:=?_)
    apply TO.pop1 (wn T) (dG rfl)
    repeat exact sd T
    refine wa_ T (g:=?_)
    rcases ifs hr with⟨h5,hr⟩|⟨h5,hr⟩
    ·have T:=an h5 T
     refine wC T (g:=?_)
     obtain⟨v8,h6,hr⟩:=bs hr
     apply TO.cal (wn T) rfl Hw (Spec.ov (mJ h6) (by decide)) rfl rfl rfl
     repeat exact sd T
     refine wa_ T (g:=?_)
     rcases ifs hr with⟨h7,hr⟩|⟨h7,hr⟩
     ·have T:=an h7 T
      refine wa_ T (g:=?_)
      exact lv T hr
     ·have T:=an h7 T
      refine wa_ T (g:=?_)
      obtain⟨⟨v9,v10⟩,h8,hr⟩:=bs hr
      try dsimp only at hr
      apply TO.cal (wn T) rfl Yx (Spec.ov (nZ h8) (by decide)) rfl rfl rfl
      repeat exact sd T
      refine wa_ T (g:=?_)
      obtain⟨⟨v11,v12⟩,h9,hr⟩:=bs hr
      try dsimp only at hr
      apply TO.cal (wn T) rfl Yx (Spec.ov (nZ h9) (by decide)) rfl rfl rfl
      repeat exact sd T
      refine wa_ T (g:=?_)
      apply TO.pop1 (wn T) (dG rfl)
      repeat exact sd T
      refine wa_ T (g:=?_)
      rcases ifs hr with⟨h10,hr⟩|⟨h10,hr⟩
      ·have T:=an h10 T
       refine wa_ T (g:=?_)
       apply TO.pop1 (wn T) (dG rfl)
       repeat exact sd T
       refine wa_ T (g:=?_)
       rcases ifs hr with⟨h11,hr⟩|⟨h11,hr⟩
       ·have T:=an h11 T
        refine wa_ T (g:=?_)
        obtain⟨v13,h12,hr⟩:=bs hr
        apply TD.lok (wn T) rfl Qy (Spec.ov (mU h12) (by decide)) (vw T) rfl rfl (by simp[qQ,cl,e_i,e_c,e_ii,e_Lc_,e_f])
        repeat exact sd T
        refine wA T (g:=?_)
        obtain⟨⟨v14,v15⟩,h13,hr⟩:=bs hr
        try dsimp only at hr
        apply TD.cal (wn T) rfl Wx (Spec.ov (uA h13) (by decide)) rfl rfl rfl
        repeat exact sd T
        refine wA T (g:=?_)
        obtain⟨⟨v16,v17⟩,h14,hr⟩:=bs hr
        try dsimp only at hr
        apply TD.lok (wn T) rfl aB9 (Spec.ov (yE h14) (by decide)) (vw T) rfl rfl (by simp[qQ,cl,e_i,e_c,e_ii,e_Lc_,e_f])
        repeat exact sd T
        refine wa_ T (g:=?_)
        rcases ifs hr with⟨h15,hr⟩|⟨h15,hr⟩
        ·have T:=an h15 T
         refine wa_ T (g:=?_)
         exact lv T hr
        ·have T:=an h15 T
         refine wC T (g:=?_)
         obtain⟨v18,h16,hr⟩:=bs hr
         apply TO.cal (wn T) rfl Hw (Spec.ov (mJ h16) (by decide)) rfl rfl rfl
         repeat exact sd T
         refine wa_ T (g:=?_)
         rcases ifs hr with⟨h17,hr⟩|⟨h17,hr⟩
         ·have T:=an h17 T
          refine wa_ T (g:=?_)
          exact lv T hr
         ·have T:=an h17 T
          refine wa_ T (g:=?_)
          obtain⟨v19,h18,hr⟩:=bs hr
          apply TO.lok (wn T) rfl Qy (Spec.ov (mU h18) (by decide)) (vw T) rfl rfl (by simp[qQ,cl,e_i,e_c,e_ii,e_Lc_,e_f])
          repeat exact sd T
          refine wa_ T (g:=?_)
          obtain⟨v20,h19,hr⟩:=bs hr
          apply TO.lok (wn T) rfl Qy (Spec.ov (mU h19) (by decide)) (vw T) rfl rfl (by simp[qQ,cl,e_i,e_c,e_ii,e_Lc_,e_f])
          repeat exact sd T
          refine wa_ T (g:=?_)
          obtain⟨⟨v46,v47⟩,h38,hr⟩:=bs hr
          try dsimp only at hr
          refine TX.loopE (step:=bB v11 v16) (x:=(v19,v20,0)) h38 (fun (v21,v22,v23)=>⟨.list 2 (v1.map e_ii)::.Z::.Z::.Z::.fptr true [.v (.int .i64 v2),.list 1 (v3.map e_i),.v (.int .i64 v4)] 0::.Z::.Z::.lsl 0 0 v9.length::.Z::.lsl 1 0 v11.length::.Z::.lsl 2 0 v16.length::.Z::.lsl 3 0 v21.length::.lsl 4 0 v22.length::.v (.int .i64 v23)::.Z::.Z::.Z::.Z::.Z::.Z::.Z::.Z::.Z::.Z::.Z::.Z::.Z::.Z::.Z::.Z::.Z::.Z::.Z::.Z::.Z::.Z::.Z::.Z::.Z::.Z::.Z::.Z::.Z::.Z::.Z::.Z::.Z::.Z::.Z::.Z::.Z::.Z::.Z::.Z::.Z::.Z::.Z::.Z::.Z::.Z::.Z::.Z::.Z::.Z::.Z::.Z::.Z::.Z::.Z::.Z::.Z::.Z::.Z::.Z::.Z::.Z::.Z::.Z::.Z::.Z::.Z::.Z::.Z::.Z::.Z::.Z::.Z::.Z::.Z::.Z::.Z::.Z::.Z::.Z::.Z::.Z::.Z::.Z::.Z::.Z::.Z::.Z::.Z::.Z::.Z::.Z::.Z::.Z::.Z::.Z::.Z::.Z::.Z::.Z::.Z::.Z::.Z::.Z::.Z::.Z::.Z::.Z::.Z::.Z::.Z::.Z::.Z::.Z::.Z::.Z::.Z::.Z::.Z::.Z::.Z::.Z::.Z::.Z::.Z::.Z::.Z::.Z::.Z::.Z::.Z::.Z::.Z::.Z::.Z::.Z::.Z::.Z::.Z::.Z::.Z::.Z::.Z::.Z::.Z::.Z::.Z::.Z::.Z::.Z::.Z::.Z::.Z::.Z::.Z::.Z::.Z::.Z::.Z::.Z::.Z::.Z::.Z::.Z::.Z::.Z::.Z::.Z::.Z::.Z::.Z::.Z::.Z::.Z::.Z::.Z::.Z::.Z::.Z::.Z::.Z::.Z::.Z::.Z::.Z::.Z::.Z::.Z::.Z::.Z::.Z::.Z::.Z::.Z::.Z::.Z::.Z::.Z::.Z::.Z::.Z::.Z::.Z::.Z::[],[.rows 1 (v9.map e_c),.rows 1 (v11.map e_c),.rows 1 (v16.map e_c),.rows 1 (v21.map e_c),.rows 1 (v22.map e_c)]⟩) (fun (v34,v35)=>(.exit 0,⟨.list 2 (v1.map e_ii)::.Z::.Z::.Z::.fptr true [.v (.int .i64 v2),.list 1 (v3.map e_i),.v (.int .i64 v4)] 0::.Z::.Z::.lsl 0 0 v9.length::.Z::.Z::.Z::.lsl 1 0 v16.length::.Z::.lsl 2 0 v34.length::.lsl 3 0 v35.length::.Z::.Z::.Z::.Z::.Z::.Z::.Z::.Z::.Z::.Z::.Z::.Z::.Z::.Z::.Z::.Z::.Z::.Z::.Z::.Z::.Z::.Z::.Z::.Z::.Z::.Z::.Z::.Z::.Z::.Z::.Z::.Z::.Z::.Z::.Z::.Z::.Z::.Z::.Z::.Z::.Z::.Z::.Z::.Z::.Z::.Z::.Z::.Z::.Z::.Z::.Z::.Z::.Z::.Z::.Z::.Z::.Z::.Z::.Z::.Z::.Z::.Z::.Z::.Z::.Z::.Z::.Z::.Z::.Z::.Z::.Z::.Z::.Z::.Z::.Z::.Z::.Z::.Z::.Z::.Z::.Z::.Z::.Z::.Z::.Z::.Z::.Z::.Z::.Z::.Z::.Z::.Z::.Z::.Z::.Z::.Z::.Z::.Z::.Z::.Z::.Z::.Z::.Z::.Z::.Z::.Z::.Z::.Z::.Z::.Z::.Z::.Z::.Z::.Z::.Z::.Z::.Z::.Z::.Z::.Z::.Z::.Z::.Z::.Z::.Z::.Z::.Z::.Z::.Z::.Z::.Z::.Z::.Z::.Z::.Z::.Z::.Z::.Z::.Z::.Z::.Z::.Z::.Z::.Z::.Z::.Z::.Z::.Z::.Z::.Z::.Z::.Z::.Z::.Z::.Z::.Z::.Z::.Z::.Z::.Z::.Z::.Z::.Z::.Z::.Z::.Z::.Z::.Z::.Z::.Z::.Z::.Z::.Z::.Z::.Z::.Z::.Z::.Z::.Z::.Z::.Z::.Z::.Z::.Z::.Z::.Z::.Z::.Z::.Z::.Z::.Z::.Z::.Z::.Z::.Z::.Z::.Z::.Z::.Z::.Z::.Z::.Z::.Z::.Z::.Z::[],[.rows 1 (v9.map e_c),.rows 1 (v16.map e_c),.rows 1 (v34.map e_c),.rows 1 (v35.map e_c)]⟩)) ?_ ?_ ?_ ?_
          ·rintro⟨v21,v22,v23⟩ v0 hr
           dsimp only[bB] at hr
           try dsimp only
           refine wc_ T (g:=?_)
           rcases ifs hr with⟨h29,hr⟩|⟨h29,hr⟩
           ·have T:=an h29 T
            refine wc_ T (g:=?_)
            rcases ifs hr with⟨h30,hr⟩|⟨h30,hr⟩
            ·have T:=an h30 T
             refine wa_ T (g:=?_)
             obtain⟨⟨v36,v37⟩,h31,hr⟩:=bs hr
             try dsimp only at hr
             have h31m:=gQ (f:=e_c) h31
             have h31l:=jA h31
             try simp only[List.length_set] at h31l
             have h31a:=jC h31
             have T:=an h31m T
             have T:=an h31l T
             have T:=an h31a T
             refine wA T (g:=?_)
             obtain⟨⟨v38,v39⟩,h32,hr⟩:=bs hr
             try dsimp only at hr
             have T:=an (gx e_c h32) T
             refine wA T (g:=?_)
             obtain⟨v40,h33,hr⟩:=bs hr
             skip
             obtain⟨v41,h34,hr⟩:=bs hr
             apply TD.pop1 (wn T) (Eb rfl rfl (by decide) (h33) (h34))
             repeat exact sd T
             refine wa_ T (g:=?_)
             obtain⟨⟨v42,v43⟩,h35,hr⟩:=bs hr
             try dsimp only at hr
             have h35m:=gQ (f:=e_c) h35
             have h35l:=jA h35
             try simp only[List.length_set] at h35l
             have h35a:=jC h35
             have T:=an h35m T
             have T:=an h35l T
             have T:=an h35a T
             refine wA T (g:=?_)
             obtain⟨v44,h36,hr⟩:=bs hr
             skip
             obtain⟨v45,h37,hr⟩:=bs hr
             apply TD.pop1 (wn T) (Eb rfl rfl (by decide) (h36) (h37))
             repeat exact sd T
             refine wa_ T (g:=?_)
             apply TD.sr e_c v21 (v36,v37) (v40,v41) h31a (wn T) rfl rfl rfl rfl rfl ok59 (by rw[cs59];rfl) rfl rfl rfl rfl rfl
             repeat exact sd T
             refine wa_ T (g:=?_)
             apply TD.sr e_c v22 (v42,v43) (v44,v45) h35a (wn T) rfl rfl rfl rfl rfl ok59 (by rw[cs59];rfl) rfl rfl rfl rfl rfl
             repeat exact sd T
             refine wa_ T (g:=?_)
             cases hr
             refine⟨rfl,?_⟩
             exact wk_ T [some 0,some 1,some 2,some 3,some 4] rfl (.rows (.rows (.rows (.rows (.rows .nil rfl rfl) rfl rfl) rfl rfl) rfl rfl) rfl rfl)
            ·have T:=an h30 T
             refine wa_ T (g:=?_)
             cases hr
             refine⟨rfl,?_⟩
             exact wk_ T [some 0,some 2,some 3,some 4] rfl (.rows (.rows (.rows (.rows .nil rfl rfl) rfl rfl) rfl rfl) rfl rfl)
           ·have T:=an h29 T
            refine wa_ T (g:=?_)
            cases hr
            refine⟨rfl,?_⟩
            exact wk_ T [some 0,some 2,some 3,some 4] rfl (.rows (.rows (.rows (.rows .nil rfl rfl) rfl rfl) rfl rfl) rfl rfl)
          ·intro e h;cases h
          ·try dsimp only
           refine wa_ T (g:=?_)
           apply TO.frz 2 rfl rfl
           repeat exact sd T
           refine wa_ T (g:=?_)
           apply TO.frz 3 rfl rfl
           repeat exact sd T
           refine wa_ T (g:=?_)
           apply TO.bm e_Lc_ ([v46,v47]:List (List (Nat×Nat))) (wn T) rfl (by simp only[zz,y88,e_Lc_,e_c,e_f,e_i,e_ii,Nat.reduceAdd,Nat.reduceMul,Nat.reduceLeDiff,Nat.reduceEqDiff,tslice,tparts,h1,h2,h3,h5,h7,h10,h11,h15,h17];exact rfl) rfl
           repeat exact sd T
           refine wa_ T (g:=?_)
           obtain⟨⟨v48,v49⟩,h39,hr⟩:=bs hr
           try dsimp only at hr
           apply TO.cal (wn T) rfl aBy (Spec.ov (wW h39) (by decide)) rfl rfl rfl
           repeat exact sd T
           refine wA T (g:=?_)
           obtain⟨⟨v50,v51⟩,h40,hr⟩:=bs hr
           try dsimp only at hr
           apply TD.cal (wn T) rfl Wx (Spec.ov (uA h40) (by decide)) rfl rfl rfl
           repeat exact sd T
           refine wA T (g:=?_)
           obtain⟨⟨v52,v53⟩,h41,hr⟩:=bs hr
           try dsimp only at hr
           apply TD.lok (wn T) rfl aBW (Spec.ov (wV h41) (by decide)) (vw T) rfl rfl (by simp[qQ,cl,e_i,e_c,e_ii,e_Lc_,e_f])
           repeat exact sd T
           refine wa_ T (g:=?_)
           rcases ifs hr with⟨h42,hr⟩|⟨h42,hr⟩
           ·have T:=an h42 T
            refine wa_ T (g:=?_)
            exact lv T hr
           ·have T:=an h42 T
            refine wa_ T (g:=?_)
            rcases ifs hr with⟨h43,hr⟩|⟨h43,hr⟩
            ·have T:=an h43 T
             refine wa_ T (g:=?_)
             exact lv T hr
            ·have T:=an h43 T
             refine wc_ T (g:=?_)
             rcases ifs hr with⟨h44,hr⟩|⟨h44,hr⟩
             ·have T:=an h44 T
              refine wa_ T (g:=?_)
              exact lv T hr
             ·have T:=an h44 T
              refine wc_ T (g:=?_)
              obtain⟨v54,h45,hr⟩:=bs hr
              apply TO.ct e_c h45 (wn T) rfl rfl rfl so32 ok59 cs59
              repeat exact sd T
              refine wa_ T (g:=?_)
              obtain⟨v55,h46,hr⟩:=bs hr
              apply TO.lok (wn T) rfl aCm (Spec.ov (uL h46) (by decide)) (by simp only[view,z1,z3,zl,tml,tmlc,List.length_set,Nat.reduceEqDiff,if_false,Gd,Dd]<;>rfl) rfl rfl (by simp[qQ,cl,e_i,e_c,e_ii,e_Lc_,e_f])
              repeat exact sd T
              refine wa_ T (g:=?_)
              apply TO.pop1 (wn T) (dG rfl)
              repeat exact sd T
              refine wa_ T (g:=?_)
              rcases ifs hr with⟨h47,hr⟩|⟨h47,hr⟩
              ·have T:=an h47 T
               refine wa_ T (g:=?_)
               obtain⟨⟨v56,v57,v58,v59,v60⟩,h48,hr⟩:=bs hr
               try dsimp only at hr
               apply TO.lok (wn T) rfl aBt (Spec.ov (Cm h48) (by decide)) (vw T) rfl rfl (by simp[qQ,cl,e_i,e_c,e_ii,e_Lc_,e_f])
               repeat exact sd T
               refine wa_ T (g:=?_)
               rcases ifs hr with⟨h49,hr⟩|⟨h49,hr⟩
               ·have T:=an h49 T
                refine wa_ T (g:=?_)
                exact lv T hr
               ·have T:=an h49 T
                refine wa_ T (g:=?_)
                refine TX.unroll ?_
                repeat (first|(with_reducible first|refine mv ?_|refine m12 rfl ?_|refine TO.nil ?_)|((with_reducible first|apply TO.mv|apply TO.bin|apply TO.ia|apply TO.ld|apply TO.len|apply TO.bld);(repeat (focus (show _=_;first|exact k1 rfl|exact k2 rfl|(simp only[zz,y88,e_Lc_,e_c,e_f,e_i,e_ii,Nat.reduceAdd,Nat.reduceMul,Nat.reduceLeDiff,Nat.reduceEqDiff,aB,z5,Int.reduceToNat,Int.reduceLE,Int.reduceLT,Int.cast_ofNat_Int,tload,aZ,bA,List.getElem?_map,tlen,tbuild,tfill,h1,h2,h3,h5,h7,h10,h11,h15,h17,h42,h43,h44,h47,h49]<;>exact rfl)|exact rfl)));(with_reducible apply TO.here))|((with_reducible apply TX.region);(focus (simp only[zl]<;>exact rfl));(focus rfl);(try dsimp only))|((with_reducible apply TX.cond_true);(focus rfl);(focus (first|rfl|(simp only[z1,zn,h1,h2,h3,h5,h7,h10,h11,h15,h17,h42,h43,h44,h47,h49];done))))|((with_reducible apply TX.cond_false);(focus rfl);(focus (first|rfl|(simp only[z1,zn,h1,h2,h3,h5,h7,h10,h11,h15,h17,h42,h43,h44,h47,h49];done))))|fail)
                obtain⟨⟨v61,v62⟩,h50,hr⟩:=bs hr
                try dsimp only at hr
                apply TO.lok (wn T) rfl Zn (Spec.ov (qF h50) (by decide)) (vw T) rfl rfl (by simp[qQ,cl,e_i,e_c,e_ii,e_Lc_,e_f])
                repeat exact sd T
                refine wa_ T (g:=?_)
                obtain⟨v70,h55,hr⟩:=bs hr
                refine TX.loopE (step:=bV v1) (x:=(0,0)) h55 (fun (v63,v64)=>⟨.list 2 (v1.map e_ii)::.Z::.Z::.Z::.Z::.Z::.Z::.Z::.Z::.Z::.Z::.Z::.Z::.Z::.Z::.Z::.Z::.Z::.lsl 0 0 v52.length::.Z::.lptr 1 0 0::.Z::.v (.int .i64 0)::.v (.int .i64 v61)::.v (.int .i64 v62)::.v (.int .i64 v63)::.v (.int .i64 v64)::.Z::.Z::.Z::.Z::.Z::.Z::.Z::.Z::.Z::.Z::.Z::.Z::.Z::.Z::.Z::.Z::.Z::.Z::.Z::.Z::.Z::.Z::.Z::.Z::.Z::.Z::.Z::.Z::.Z::.Z::.Z::.Z::.Z::.Z::.Z::.Z::.Z::.Z::.Z::.Z::.Z::.Z::.Z::.Z::.Z::.Z::.Z::.Z::.Z::.Z::.Z::.Z::.Z::.Z::.Z::.Z::.Z::.Z::.Z::.Z::.Z::.Z::.Z::.Z::.Z::.Z::.Z::.Z::.Z::.Z::.Z::.Z::.Z::.Z::.Z::.Z::.Z::.Z::.Z::.Z::.Z::.Z::.Z::.Z::.Z::.Z::.Z::.Z::.Z::.Z::.Z::.Z::.Z::.Z::.Z::.Z::.Z::.Z::.Z::.Z::.Z::.Z::.Z::.Z::.Z::.Z::.Z::.Z::.Z::.Z::.Z::.Z::.Z::.Z::.Z::.Z::.Z::.Z::.Z::.Z::.Z::.Z::.Z::.Z::.Z::.Z::.Z::.Z::.Z::.Z::.Z::.Z::.Z::.Z::.Z::.Z::.Z::.Z::.Z::.Z::.Z::.Z::.Z::.Z::.Z::.Z::.Z::.Z::.Z::.Z::.Z::.Z::.Z::.Z::.Z::.Z::.Z::.Z::.Z::.Z::.Z::.Z::.Z::.Z::.Z::.Z::.Z::.Z::.Z::.Z::.Z::.Z::.Z::.Z::.Z::.Z::.Z::.Z::.Z::.Z::.Z::.Z::.Z::.Z::.Z::.Z::.Z::.Z::.Z::.Z::.Z::.Z::.Z::[],[.rows 1 (v52.map e_c),.var [.v (.int .i64 v56),.lsl 2 0 v57.length,.v (.int .i64 v58),.lsl 3 0 v59.length],.rows 1 (v57.map e_f),.rows 1 (v59.map e_f)]⟩) (fun v67=>(.exit 4,⟨.list 2 (v1.map e_ii)::.Z::.Z::.Z::.Z::.Z::.Z::.Z::.Z::.Z::.Z::.Z::.Z::.Z::.Z::.Z::.Z::.Z::.lsl 0 0 v52.length::.Z::.lptr 1 0 0::.Z::.v (.int .i64 0)::.v (.int .i64 v61)::.v (.int .i64 v62)::.v (.int .i64 v67)::.Z::.Z::.Z::.Z::.Z::.Z::.Z::.Z::.Z::.Z::.Z::.Z::.Z::.Z::.Z::.Z::.Z::.Z::.Z::.Z::.Z::.Z::.Z::.Z::.Z::.Z::.Z::.Z::.Z::.Z::.Z::.Z::.Z::.Z::.Z::.Z::.Z::.Z::.Z::.Z::.Z::.Z::.Z::.Z::.Z::.Z::.Z::.Z::.Z::.Z::.Z::.Z::.Z::.Z::.Z::.Z::.Z::.Z::.Z::.Z::.Z::.Z::.Z::.Z::.Z::.Z::.Z::.Z::.Z::.Z::.Z::.Z::.Z::.Z::.Z::.Z::.Z::.Z::.Z::.Z::.Z::.Z::.Z::.Z::.Z::.Z::.Z::.Z::.Z::.Z::.Z::.Z::.Z::.Z::.Z::.Z::.Z::.Z::.Z::.Z::.Z::.Z::.Z::.Z::.Z::.Z::.Z::.Z::.Z::.Z::.Z::.Z::.Z::.Z::.Z::.Z::.Z::.Z::.Z::.Z::.Z::.Z::.Z::.Z::.Z::.Z::.Z::.Z::.Z::.Z::.Z::.Z::.Z::.Z::.Z::.Z::.Z::.Z::.Z::.Z::.Z::.Z::.Z::.Z::.Z::.Z::.Z::.Z::.Z::.Z::.Z::.Z::.Z::.Z::.Z::.Z::.Z::.Z::.Z::.Z::.Z::.Z::.Z::.Z::.Z::.Z::.Z::.Z::.Z::.Z::.Z::.Z::.Z::.Z::.Z::.Z::.Z::.Z::.Z::.Z::.Z::.Z::.Z::.Z::.Z::.Z::.Z::.Z::.Z::.Z::.Z::.Z::.Z::.Z::[],[.rows 1 (v52.map e_c),.var [.v (.int .i64 v56),.lsl 2 0 v57.length,.v (.int .i64 v58),.lsl 3 0 v59.length],.rows 1 (v57.map e_f),.rows 1 (v59.map e_f)]⟩)) ?_ ?_ ?_ ?_
                ·rintro⟨v63,v64⟩ v0 hr
                 dsimp only[bV] at hr
                 try dsimp only
                 refine wc_ T (g:=?_)
                 rcases ifs hr with⟨h53,hr⟩|⟨h53,hr⟩
                 ·have T:=an h53 T
                  refine wa_ T (g:=?_)
                  obtain⟨⟨v68,v69⟩,h54,hr⟩:=bs hr
                  try dsimp only at hr
                  have h54m:=gQ (f:=e_ii) h54
                  have h54l:=jA h54
                  try simp only[List.length_set] at h54l
                  have h54a:=jC h54
                  repeat (first|(with_reducible first|refine mv ?_|refine m12 rfl ?_|refine TO.nil ?_)|((with_reducible first|apply TO.mv|apply TO.bin|apply TO.asg);(repeat (focus (show _=_;first|exact k1 rfl|exact k2 rfl|(simp only[zz,y88,e_Lc_,e_c,e_f,e_i,e_ii,Nat.reduceAdd,Nat.reduceMul,Nat.reduceLeDiff,Nat.reduceEqDiff,h1,h2,h3,h5,h7,h10,h11,h15,h17,h42,h43,h44,h47,h49,h53,h54m,h54l,h54a]<;>exact rfl)|exact rfl)));(with_reducible apply TO.here))|((with_reducible apply TX.region);(focus (simp only[zl]<;>exact rfl));(focus rfl);(try dsimp only))|with_reducible refine TD.nil ?_|((with_reducible first|apply TD.ia|apply TD.ia|apply TD.ld|apply TD.mv|apply TD.bin|apply TD.asg);(repeat (focus (show _=_;first|exact k1 rfl|exact k2 rfl|(simp only[zz,y88,e_Lc_,e_c,e_f,e_i,e_ii,Nat.reduceAdd,Nat.reduceMul,Nat.reduceLeDiff,Nat.reduceEqDiff,aB,Nat.zero_add,z5,Int.reduceToNat,Int.reduceLE,Int.reduceLT,Int.cast_ofNat_Int,tload,aZ,bA,List.getElem?_map,h1,h2,h3,h5,h7,h10,h11,h15,h17,h42,h43,h44,h47,h49,h53,h54m,h54l,h54a]<;>exact rfl)|exact rfl)));(with_reducible refine TD.here ?_))|((with_reducible apply TX.drawn);(focus decide +kernel);(focus (simp only[zl]<;>exact rfl));(focus exact rfl);(try dsimp only))|fail)
                  cases hr
                  refine⟨rfl,?_⟩
                  exact wk_ T [some 0,some 1,some 2,some 3] rfl (.rows (rv (.rows (.rows .nil rfl rfl) rfl rfl) rfl) rfl rfl)
                 ·have T:=an h53 T
                  refine wa_ T (g:=?_)
                  cases hr
                  refine⟨rfl,?_⟩
                  exact wk_ T [some 0,some 1,some 2,some 3] rfl (.rows (rv (.rows (.rows .nil rfl rfl) rfl rfl) rfl) rfl rfl)
                ·intro e h;cases h
                ·try dsimp only
                 refine wa_ T (g:=?_)
                 rcases ifs hr with⟨h56,hr⟩|⟨h56,hr⟩
                 ·have T:=an h56 T
                  refine wa_ T (g:=?_)
                  exact lv T hr
                 ·have T:=an h56 T
                  refine wa_ T (g:=?_)
                  rcases ifs hr with⟨h57,hr⟩|⟨h57,hr⟩
                  ·have T:=an h57 T
                   refine wa_ T (g:=?_)
                   exact lv T hr
                  ·have T:=an h57 T
                   refine wa_ T (g:=?_)
                   refine TX.unroll ?_
                   repeat (first|(with_reducible first|refine mv ?_|refine m12 rfl ?_|refine TO.nil ?_)|((with_reducible first|apply TO.mv|apply TO.bin|apply TO.ia|apply TO.ld|apply TO.len|apply TO.bld);(repeat (focus (show _=_;first|exact k1 rfl|exact k2 rfl|(simp only[zz,y88,e_Lc_,e_c,e_f,e_i,e_ii,Nat.reduceAdd,Nat.reduceMul,Nat.reduceLeDiff,Nat.reduceEqDiff,aB,z5,Int.reduceToNat,Int.reduceLE,Int.reduceLT,Int.cast_ofNat_Int,tload,aZ,bA,List.getElem?_map,tlen,tbuild,tfill,h1,h2,h3,h5,h7,h10,h11,h15,h17,h42,h43,h44,h47,h49,h56,h57]<;>exact rfl)|exact rfl)));(with_reducible apply TO.here))|((with_reducible apply TX.region);(focus (simp only[zl]<;>exact rfl));(focus rfl);(try dsimp only))|((with_reducible apply TX.cond_true);(focus rfl);(focus (first|rfl|(simp only[z1,zn,h1,h2,h3,h5,h7,h10,h11,h15,h17,h42,h43,h44,h47,h49,h56,h57];done))))|((with_reducible apply TX.cond_false);(focus rfl);(focus (first|rfl|(simp only[z1,zn,h1,h2,h3,h5,h7,h10,h11,h15,h17,h42,h43,h44,h47,h49,h56,h57];done))))|fail)
                   obtain⟨⟨v71,v72⟩,h58,hr⟩:=bs hr
                   try dsimp only at hr
                   apply TO.lok (wn T) rfl Zn (Spec.ov (qF h58) (by decide)) (vw T) rfl rfl (by simp[qQ,cl,e_i,e_c,e_ii,e_Lc_,e_f])
                   repeat exact sd T
                   refine wa_ T (g:=?_)
                   obtain⟨v80,h63,hr⟩:=bs hr
                   refine TX.loopE (step:=bU v1) (x:=(0,0)) h63 (fun (v73,v74)=>⟨.list 2 (v1.map e_ii)::.Z::.Z::.Z::.Z::.Z::.Z::.Z::.Z::.Z::.Z::.Z::.Z::.Z::.Z::.Z::.Z::.Z::.lsl 0 0 v52.length::.Z::.lptr 1 0 0::.Z::.v (.int .i64 1)::.v (.int .i64 v71)::.v (.int .i64 v72)::.v (.int .i64 v73)::.v (.int .i64 v74)::.Z::.Z::.Z::.Z::.Z::.Z::.Z::.Z::.Z::.Z::.Z::.Z::.Z::.Z::.Z::.Z::.Z::.Z::.Z::.Z::.Z::.Z::.Z::.Z::.Z::.Z::.Z::.Z::.Z::.Z::.Z::.Z::.Z::.Z::.Z::.Z::.Z::.Z::.Z::.Z::.Z::.Z::.Z::.Z::.Z::.Z::.Z::.Z::.Z::.Z::.Z::.Z::.Z::.Z::.Z::.Z::.Z::.Z::.Z::.Z::.Z::.Z::.Z::.Z::.Z::.Z::.Z::.Z::.Z::.Z::.Z::.Z::.Z::.Z::.Z::.Z::.Z::.Z::.Z::.Z::.Z::.Z::.Z::.Z::.Z::.Z::.Z::.Z::.Z::.Z::.Z::.Z::.Z::.Z::.Z::.Z::.Z::.Z::.Z::.Z::.Z::.Z::.Z::.Z::.Z::.Z::.Z::.Z::.Z::.Z::.Z::.Z::.Z::.Z::.Z::.Z::.Z::.Z::.Z::.Z::.Z::.Z::.Z::.Z::.Z::.Z::.Z::.Z::.Z::.Z::.Z::.Z::.Z::.Z::.Z::.Z::.Z::.Z::.Z::.Z::.Z::.Z::.Z::.Z::.Z::.Z::.Z::.Z::.Z::.Z::.Z::.Z::.Z::.Z::.Z::.Z::.Z::.Z::.Z::.Z::.Z::.Z::.Z::.Z::.Z::.Z::.Z::.Z::.Z::.Z::.Z::.Z::.Z::.Z::.Z::.Z::.Z::.Z::.Z::.Z::.Z::.Z::.Z::.Z::.Z::.Z::.Z::.Z::.Z::.Z::.Z::.Z::.Z::[],[.rows 1 (v52.map e_c),.var [.v (.int .i64 v56),.lsl 2 0 v57.length,.v (.int .i64 v58),.lsl 3 0 v59.length],.rows 1 (v57.map e_f),.rows 1 (v59.map e_f)]⟩) (fun v77=>(.exit 4,⟨.list 2 (v1.map e_ii)::.Z::.Z::.Z::.Z::.Z::.Z::.Z::.Z::.Z::.Z::.Z::.Z::.Z::.Z::.Z::.Z::.Z::.lsl 0 0 v52.length::.Z::.lptr 1 0 0::.Z::.v (.int .i64 1)::.v (.int .i64 v71)::.v (.int .i64 v72)::.v (.int .i64 v77)::.Z::.Z::.Z::.Z::.Z::.Z::.Z::.Z::.Z::.Z::.Z::.Z::.Z::.Z::.Z::.Z::.Z::.Z::.Z::.Z::.Z::.Z::.Z::.Z::.Z::.Z::.Z::.Z::.Z::.Z::.Z::.Z::.Z::.Z::.Z::.Z::.Z::.Z::.Z::.Z::.Z::.Z::.Z::.Z::.Z::.Z::.Z::.Z::.Z::.Z::.Z::.Z::.Z::.Z::.Z::.Z::.Z::.Z::.Z::.Z::.Z::.Z::.Z::.Z::.Z::.Z::.Z::.Z::.Z::.Z::.Z::.Z::.Z::.Z::.Z::.Z::.Z::.Z::.Z::.Z::.Z::.Z::.Z::.Z::.Z::.Z::.Z::.Z::.Z::.Z::.Z::.Z::.Z::.Z::.Z::.Z::.Z::.Z::.Z::.Z::.Z::.Z::.Z::.Z::.Z::.Z::.Z::.Z::.Z::.Z::.Z::.Z::.Z::.Z::.Z::.Z::.Z::.Z::.Z::.Z::.Z::.Z::.Z::.Z::.Z::.Z::.Z::.Z::.Z::.Z::.Z::.Z::.Z::.Z::.Z::.Z::.Z::.Z::.Z::.Z::.Z::.Z::.Z::.Z::.Z::.Z::.Z::.Z::.Z::.Z::.Z::.Z::.Z::.Z::.Z::.Z::.Z::.Z::.Z::.Z::.Z::.Z::.Z::.Z::.Z::.Z::.Z::.Z::.Z::.Z::.Z::.Z::.Z::.Z::.Z::.Z::.Z::.Z::.Z::.Z::.Z::.Z::.Z::.Z::.Z::.Z::.Z::.Z::.Z::.Z::.Z::.Z::.Z::.Z::[],[.rows 1 (v52.map e_c),.var [.v (.int .i64 v56),.lsl 2 0 v57.length,.v (.int .i64 v58),.lsl 3 0 v59.length],.rows 1 (v57.map e_f),.rows 1 (v59.map e_f)]⟩)) ?_ ?_ ?_ ?_
                   ·rintro⟨v73,v74⟩ v0 hr
                    dsimp only[bU] at hr
                    try dsimp only
                    refine wc_ T (g:=?_)
                    rcases ifs hr with⟨h61,hr⟩|⟨h61,hr⟩
                    ·have T:=an h61 T
                     refine wa_ T (g:=?_)
                     obtain⟨⟨v78,v79⟩,h62,hr⟩:=bs hr
                     try dsimp only at hr
                     have h62m:=gQ (f:=e_ii) h62
                     have h62l:=jA h62
                     try simp only[List.length_set] at h62l
                     have h62a:=jC h62
                     repeat (first|(with_reducible first|refine mv ?_|refine m12 rfl ?_|refine TO.nil ?_)|((with_reducible first|apply TO.mv|apply TO.bin|apply TO.asg);(repeat (focus (show _=_;first|exact k1 rfl|exact k2 rfl|(simp only[zz,y88,e_Lc_,e_c,e_f,e_i,e_ii,Nat.reduceAdd,Nat.reduceMul,Nat.reduceLeDiff,Nat.reduceEqDiff,h1,h2,h3,h5,h7,h10,h11,h15,h17,h42,h43,h44,h47,h49,h56,h57,h61,h62m,h62l,h62a]<;>exact rfl)|exact rfl)));(with_reducible apply TO.here))|((with_reducible apply TX.region);(focus (simp only[zl]<;>exact rfl));(focus rfl);(try dsimp only))|with_reducible refine TD.nil ?_|((with_reducible first|apply TD.ia|apply TD.ia|apply TD.ld|apply TD.mv|apply TD.bin|apply TD.asg);(repeat (focus (show _=_;first|exact k1 rfl|exact k2 rfl|(simp only[zz,y88,e_Lc_,e_c,e_f,e_i,e_ii,Nat.reduceAdd,Nat.reduceMul,Nat.reduceLeDiff,Nat.reduceEqDiff,aB,Nat.zero_add,z5,Int.reduceToNat,Int.reduceLE,Int.reduceLT,Int.cast_ofNat_Int,tload,aZ,bA,List.getElem?_map,h1,h2,h3,h5,h7,h10,h11,h15,h17,h42,h43,h44,h47,h49,h56,h57,h61,h62m,h62l,h62a]<;>exact rfl)|exact rfl)));(with_reducible refine TD.here ?_))|((with_reducible apply TX.drawn);(focus decide +kernel);(focus (simp only[zl]<;>exact rfl));(focus exact rfl);(try dsimp only))|fail)
                     cases hr
                     refine⟨rfl,?_⟩
                     exact wk_ T [some 0,some 1,some 2,some 3] rfl (.rows (rv (.rows (.rows .nil rfl rfl) rfl rfl) rfl) rfl rfl)
                    ·have T:=an h61 T
                     refine wa_ T (g:=?_)
                     cases hr
                     refine⟨rfl,?_⟩
                     exact wk_ T [some 0,some 1,some 2,some 3] rfl (.rows (rv (.rows (.rows .nil rfl rfl) rfl rfl) rfl) rfl rfl)
                   ·intro e h;cases h
                   ·try dsimp only
                    refine wa_ T (g:=?_)
                    rcases ifs hr with⟨h64,hr⟩|⟨h64,hr⟩
                    ·have T:=an h64 T
                     refine wa_ T (g:=?_)
                     exact lv T hr
                    ·have T:=an h64 T
                     refine wa_ T (g:=?_)
                     rcases ifs hr with⟨h65,hr⟩|⟨h65,hr⟩
                     ·have T:=an h65 T
                      refine wa_ T (g:=?_)
                      exact lv T hr
                     ·have T:=an h65 T
                      refine wa_ T (g:=?_)
                      obtain⟨_,h66,hr⟩:=bs hr
                      refine TX.loopE (step:=eS) (x:=()) h66 (fun _=>⟨.list 2 (v1.map e_ii)::.Z::.Z::.Z::.Z::.Z::.Z::.Z::.Z::.Z::.Z::.Z::.Z::.Z::.Z::.Z::.Z::.Z::.lsl 0 0 v52.length::.Z::.lptr 1 0 0::.Z::.v (.int .i64 2)::.Z::.Z::.Z::.Z::.Z::.Z::.Z::.Z::.Z::.Z::.Z::.Z::.Z::.Z::.Z::.Z::.Z::.Z::.Z::.Z::.Z::.Z::.Z::.Z::.Z::.Z::.Z::.Z::.Z::.Z::.Z::.Z::.Z::.Z::.Z::.Z::.Z::.Z::.Z::.Z::.Z::.Z::.Z::.Z::.Z::.Z::.Z::.Z::.Z::.Z::.Z::.Z::.Z::.Z::.Z::.Z::.Z::.Z::.Z::.Z::.Z::.Z::.Z::.Z::.Z::.Z::.Z::.Z::.Z::.Z::.Z::.Z::.Z::.Z::.Z::.Z::.Z::.Z::.Z::.Z::.Z::.Z::.Z::.Z::.Z::.Z::.Z::.Z::.Z::.Z::.Z::.Z::.Z::.Z::.Z::.Z::.Z::.Z::.Z::.Z::.Z::.Z::.Z::.Z::.Z::.Z::.Z::.Z::.Z::.Z::.Z::.Z::.Z::.Z::.Z::.Z::.Z::.Z::.Z::.Z::.Z::.Z::.Z::.Z::.Z::.Z::.Z::.Z::.Z::.Z::.Z::.Z::.Z::.Z::.Z::.Z::.Z::.Z::.Z::.Z::.Z::.Z::.Z::.Z::.Z::.Z::.Z::.Z::.Z::.Z::.Z::.Z::.Z::.Z::.Z::.Z::.Z::.Z::.Z::.Z::.Z::.Z::.Z::.Z::.Z::.Z::.Z::.Z::.Z::.Z::.Z::.Z::.Z::.Z::.Z::.Z::.Z::.Z::.Z::.Z::.Z::.Z::.Z::.Z::.Z::.Z::.Z::.Z::.Z::.Z::.Z::.Z::.Z::.Z::.Z::.Z::.Z::[],[.rows 1 (v52.map e_c),.var [.v (.int .i64 v56),.lsl 2 0 v57.length,.v (.int .i64 v58),.lsl 3 0 v59.length],.rows 1 (v57.map e_f),.rows 1 (v59.map e_f)]⟩) (fun _=>(.exit 2,⟨.Z::.Z::.Z::.Z::.Z::.Z::.Z::.Z::.Z::.Z::.Z::.Z::.Z::.Z::.Z::.Z::.Z::.Z::.Z::.Z::.Z::.Z::.Z::.Z::.Z::.Z::.Z::.Z::.Z::.Z::.Z::.Z::.Z::.Z::.Z::.Z::.Z::.Z::.Z::.Z::.Z::.Z::.Z::.Z::.Z::.Z::.Z::.Z::.Z::.Z::.Z::.Z::.Z::.Z::.Z::.Z::.Z::.Z::.Z::.Z::.Z::.Z::.Z::.Z::.Z::.Z::.Z::.Z::.Z::.Z::.Z::.Z::.Z::.Z::.Z::.Z::.Z::.Z::.Z::.Z::.Z::.Z::.Z::.Z::.Z::.Z::.Z::.Z::.Z::.Z::.Z::.Z::.Z::.Z::.Z::.Z::.Z::.Z::.Z::.Z::.Z::.Z::.Z::.Z::.Z::.Z::.Z::.Z::.Z::.Z::.Z::.Z::.Z::.Z::.Z::.Z::.Z::.Z::.Z::.Z::.Z::.Z::.Z::.Z::.Z::.Z::.Z::.Z::.Z::.Z::.Z::.Z::.Z::.Z::.Z::.Z::.Z::.Z::.Z::.Z::.Z::.Z::.Z::.Z::.Z::.Z::.Z::.Z::.Z::.Z::.Z::.Z::.Z::.Z::.Z::.Z::.Z::.Z::.Z::.Z::.Z::.Z::.Z::.Z::.Z::.Z::.Z::.Z::.Z::.Z::.Z::.Z::.Z::.Z::.Z::.Z::.Z::.Z::.Z::.Z::.Z::.Z::.Z::.Z::.Z::.Z::.Z::.Z::.Z::.Z::.Z::.Z::.Z::.Z::.Z::.Z::.Z::.Z::.Z::.Z::.Z::.Z::.Z::.Z::.Z::.Z::.Z::.Z::.Z::.Z::.Z::.Z::.Z::.Z::.Z::.Z::.Z::.Z::.Z::.Z::[],[]⟩)) ?_ ?_ ?_ ?_
                      ·rintro _ v0 hr
                       dsimp only[eS] at hr
                       try dsimp only
                       refine wa_ T (g:=?_)
                       cases hr
                       refine⟨rfl,?_⟩
                       exact wk_ T [] rfl .nil
                      ·intro e h;cases h
                      ·try dsimp only
                       refine wa_ T (g:=?_)
                       exact lv T hr
                      ·try dsimp only
                       exact wk_ T [some 0,some 1,some 2,some 3] rfl (.rows (rv (.rows (.rows .nil rfl rfl) rfl rfl) rfl) rfl rfl)
                   ·try dsimp only
                    exact wk_ T [some 0,some 1,some 2,some 3] rfl (.rows (rv (.rows (.rows .nil rfl rfl) rfl rfl) rfl) rfl rfl)
                ·try dsimp only
                 exact wk_ T [some 6,some 9,some 7,some 8] rfl (.rows (rv (.rows (.rows .nil rfl rfl) rfl rfl) rfl) rfl rfl)
              ·have T:=an h47 T
               refine wa_ T (g:=?_)
               exact lv T hr
          ·try dsimp only
           exact wk_ T [some 0,some 1,some 4,some 5,some 6] rfl (.rows (.rows (.rows (.rows (.rows .nil rfl rfl) rfl rfl) rfl rfl) rfl rfl) rfl rfl)
       ·have T:=an h11 T
        refine wa_ T (g:=?_)
        exact lv T hr
      ·have T:=an h10 T
       refine wa_ T (g:=?_)
       exact lv T hr
    ·have T:=an h5 T
     refine wa_ T (g:=?_)
     exact lv T hr
end Go.Rex
