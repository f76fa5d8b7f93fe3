/- Proofs that the program's functions do what these plain functions say. -/
import Derived.Test.YtbodidihhbejmaaGreatGB
import Derived.Test.YtbodidihhbejmaaGreatS
import Derived.Test.YtbodidihhbejmaaGreatG2
import Derived.Test.YtbodidihhbejmaaGreatG1
set_option linter.unusedSimpArgs false
set_option linter.unusedVariables false
set_option linter.defProp false
namespace Go.Rex
open Go.Proofs
open Go Go.Rex Go.RowKit
set_option maxRecDepth 100000
set_option maxHeartbeats 1000000
def y79:=an @ag26 <| an @ag3 <| an @ag50 <| an @ar88 <| an @by88 <| an @cs26 <| an @cs3 <| an @cs50 <| an @cs88 <| an @Md <| an @Zs <| an @qE <| an @rG <| an @ok26 <| an @ok3 <| an @ok50 <| an @ok88 <| an @so24 <| an @so31 <| an @so86 <| an @so88 <| an @zc88 <| an @bD <| @mS
theorem uJ{v1:(List (Nat×Nat))}{v2:Int}{v3:(List Int)}{v4:Int}{v5:Int}{v6:Int}{v7:Int}{v8:(List (Nat×Nat))}{v9:Int}(hr:cL v1 v2 v3 v4 v5 v6 v7=some (v8,v9)):Spec (lim Tryz.prog) 24 [.list 1 (v1.map e_c),.agg [.v (.int .i64 v2),.list 1 (v3.map e_i),.v (.int .i64 v4)],.agg [.v (.int .i64 v5),.v (.int .i64 v6),.v (.int .i64 v7)]] ⟨[.tuple [.lsl 0 0 v8.length,.v (.int .i64 v9)]],[.rows 1 (v8.map e_c)]⟩:=by
 unfold cL at hr
 have T:=an y79 <| an @e_c.eq_1 <| an @e_i.eq_1 <| @e_ii.eq_1
 apply Spec.fn Tryz.func24 rfl
 focus (simp[Tryz.f24]<;>exact rfl)
 focus
  refine wb_ T (g:=?_)
  obtain⟨v10,h1,hr⟩:=bs hr
  apply TO.cal (wn T) rfl aCm (yL h1) rfl rfl rfl
  repeat exact sd T
  refine wa_ T (g:=?_)
  rcases ifs hr with⟨h2,hr⟩|⟨h2,hr⟩
  ·have T:=an h2 T
   refine wa_ T (g:=?_)
   cases hr
   refine⟨.inr rfl,_,(ry T),?_⟩
   exact wk_ T [none] rfl (.virt .nil)
  ·have T:=an h2 T
   refine wA T (g:=?_)
   obtain⟨v11,h3,hr⟩:=bs hr
   apply TO.cal (wn T) rfl aCp (xG h3) rfl rfl rfl
   repeat exact sd T
   refine wa_ T (g:=?_)
   rcases ifs hr with⟨h4,hr⟩|⟨h4,hr⟩
   ·have T:=an h4 T
    refine wa_ T (g:=?_)
    cases hr
    refine⟨.inr rfl,_,(ry T),?_⟩
    exact wk_ T [none] rfl (.virt .nil)
   ·have T:=an h4 T
    refine wA T (g:=?_)
    obtain⟨v12,h5,hr⟩:=bs hr
    apply TO.cal (wn T) rfl aCA (uB h5) rfl rfl rfl
    repeat exact sd T
    refine wa_ T (g:=?_)
    rcases ifs hr with⟨h6,hr⟩|⟨h6,hr⟩
    ·have T:=an h6 T
     refine wa_ T (g:=?_)
     cases hr
     refine⟨.inr rfl,_,(ry T),?_⟩
     exact wk_ T [none] rfl (.virt .nil)
    ·have T:=an h6 T
     refine wA T (g:=?_)
     obtain⟨v13,h7,hr⟩:=bs hr
     apply TO.cal (wn T) rfl aCv (vZ h7) rfl rfl rfl
     repeat exact sd T
     refine wa_ T (g:=?_)
     apply TO.pop1 (wn T) (cG rfl)
     repeat exact sd T
     refine wa_ T (g:=?_)
     rcases ifs hr with⟨h8,hr⟩|⟨h8,hr⟩
     ·have T:=an h8 T
      refine wA T (g:=?_)
      obtain⟨v14,h9,hr⟩:=bs hr
      apply TO.cal (wn T) rfl Lq (lY h9) rfl rfl rfl
      repeat exact sd T
      refine wc_ T (g:=?_)
      rcases ifs hr with⟨h10,hr⟩|⟨h10,hr⟩
      ·have T:=an h10 T
       refine wa_ T (g:=?_)
       cases hr
       refine⟨.inr rfl,_,(ry T),?_⟩
       exact wk_ T [none] rfl (.virt .nil)
      ·have T:=an h10 T
       refine wA T (g:=?_)
       rcases ifs hr with⟨h11,hr⟩|⟨h11,hr⟩
       ·have T:=an h11 T
        refine wa_ T (g:=?_)
        cases hr
        refine⟨.inr rfl,_,(ry T),?_⟩
        exact wk_ T [none] rfl (.virt .nil)
       ·have T:=an h11 T
        refine wA T (g:=?_)
        obtain⟨v15,h12,hr⟩:=bs hr
        apply TD.cal (wn T) rfl aCj (Bm h12) rfl rfl rfl
        repeat exact sd T
        refine wA T (g:=?_)
        obtain⟨v16,h13,hr⟩:=bs hr
        apply TD.lok (wn T) rfl Ta (jP h13) (vw T) rfl rfl (by simp[pG,cl,e_ff,e_c,e_i,e_ii])
        repeat exact sd T
        refine wa_ T (g:=?_)
        obtain⟨v17,h14,hr⟩:=bs hr
        apply TO.mk e_ii h14 (wn T) rfl rfl so86 zc88 by88 rfl rfl rfl
        repeat exact sd T
        refine wa_ T (g:=?_)
        refine TX.unroll ?_
        refine wa_ T (g:=?_)
        obtain⟨v18,h15,hr⟩:=bs hr
        apply TD.cal (wn T) rfl Yu (rP h15) rfl rfl rfl
        repeat exact sd T
        refine wa_ T (g:=?_)
        obtain⟨v19,h16,hr⟩:=bs hr
        apply TD.lok (wn T) rfl Zw (tN h16) (vw T) rfl rfl (by simp[pG,cl,e_ff,e_c,e_i,e_ii])
        repeat exact sd T
        refine wA T (g:=?_)
        obtain⟨v20,h17,hr⟩:=bs hr
        apply TD.lok (wn T) rfl Ta (jP h17) (vw T) rfl rfl (by simp[pG,cl,e_ff,e_c,e_i,e_ii])
        repeat exact sd T
        refine wa_ T (g:=?_)
        obtain⟨v30,h28,hr⟩:=bs hr
        refine TX.loopE (step:=cN v5 v14 v16) (x:=(v20,0)) h28 (fun (v21,v22)=>⟨.list 1 (v1.map e_c)::.Z::.Z::.Z::.Z::.fptr true [.v (.int .i64 v5),.v (.int .i64 v6),.v (.int .i64 v7)] 0::.Z::.Z::.Z::.Z::.Z::.v (.int .i64 v14)::.lsl 0 0 v16.length::.lsl 1 0 v17.length::.v (.int .i64 0)::.lsl 2 0 v21.length::.v (.int .i64 v22)::.Z::.Z::.Z::.Z::.Z::.Z::.Z::.Z::.Z::.Z::.Z::.Z::.Z::.Z::.Z::.Z::.Z::.Z::.Z::.Z::.Z::.Z::.Z::.Z::.Z::.Z::.Z::.Z::.Z::.Z::.Z::.Z::.Z::.Z::.Z::.Z::.Z::.Z::.Z::.Z::.Z::.Z::.Z::.Z::.Z::.Z::.Z::.Z::.Z::.Z::.Z::.Z::.Z::.Z::.Z::.Z::.Z::.Z::.Z::.Z::.Z::.Z::.Z::.Z::.Z::.Z::.Z::.Z::.Z::.Z::.Z::.Z::.Z::.Z::.Z::.Z::.Z::.Z::.Z::.Z::.Z::.Z::.Z::.Z::.Z::.Z::.Z::.Z::.Z::.Z::.Z::.Z::.Z::.Z::.Z::.Z::.Z::.Z::.Z::.Z::.Z::.Z::.Z::.Z::.Z::.Z::.Z::.Z::.Z::.Z::.Z::.Z::.Z::.Z::.Z::.Z::.Z::[],[.rows 1 (v16.map e_i),.rows 2 (v17.map e_ii),.rows 1 (v21.map e_i)]⟩) (fun v26=>(.exit 2,⟨.list 1 (v1.map e_c)::.Z::.Z::.Z::.Z::.fptr true [.v (.int .i64 v5),.v (.int .i64 v6),.v (.int .i64 v7)] 0::.Z::.Z::.Z::.Z::.Z::.v (.int .i64 v14)::.lsl 0 0 v16.length::.lsl 1 0 v17.length::.v (.int .i64 0)::.lsl 2 0 v26.length::.Z::.Z::.Z::.Z::.Z::.Z::.Z::.Z::.Z::.Z::.Z::.Z::.Z::.Z::.Z::.Z::.Z::.Z::.Z::.Z::.Z::.Z::.Z::.Z::.Z::.Z::.Z::.Z::.Z::.Z::.Z::.Z::.Z::.Z::.Z::.Z::.Z::.Z::.Z::.Z::.Z::.Z::.Z::.Z::.Z::.Z::.Z::.Z::.Z::.Z::.Z::.Z::.Z::.Z::.Z::.Z::.Z::.Z::.Z::.Z::.Z::.Z::.Z::.Z::.Z::.Z::.Z::.Z::.Z::.Z::.Z::.Z::.Z::.Z::.Z::.Z::.Z::.Z::.Z::.Z::.Z::.Z::.Z::.Z::.Z::.Z::.Z::.Z::.Z::.Z::.Z::.Z::.Z::.Z::.Z::.Z::.Z::.Z::.Z::.Z::.Z::.Z::.Z::.Z::.Z::.Z::.Z::.Z::.Z::.Z::.Z::.Z::.Z::.Z::.Z::.Z::.Z::.Z::[],[.rows 1 (v16.map e_i),.rows 2 (v17.map e_ii),.rows 1 (v26.map e_i)]⟩)) ?_ ?_ ?_ ?_
        ·rintro⟨v21,v22⟩ v0 hr
         dsimp only[cN] at hr
         try dsimp only
         refine wa_ T (g:=?_)
         rcases ifs hr with⟨h23,hr⟩|⟨h23,hr⟩
         ·have T:=an h23 T
          refine wa_ T (g:=?_)
          obtain⟨v27,h24,hr⟩:=bs hr
          have h24m:=bJ (f:=e_i) h24
          have h24l:=bQ h24
          try simp only[List.length_set] at h24l
          have h24a:=bW h24
          have T:=an h24m T
          have T:=an h24l T
          have T:=an h24a T
          refine wA T (g:=?_)
          obtain⟨v28,h25,hr⟩:=bs hr
          have T:=an (gx e_i h25) T
          refine wA T (g:=?_)
          obtain⟨v29,h26,hr⟩:=bs hr
          apply TD.cal (wn T) rfl Lg (jM h26) rfl rfl rfl
          repeat exact sd T
          refine wA T (g:=?_)
          by_cases h27:v5=0
          ·rw[if_pos h27] at hr
           cases hr
          ·rw[if_neg h27] at hr
           have T:=an h27 T
           refine wa_ T (g:=?_)
           apply TD.sr e_i v21 v27 ((IntKind.i64.wrap (v27*v29)).tmod v5) h24a (wn T) rfl rfl rfl rfl rfl ok3 (by rw[cs3];rfl) rfl rfl rfl rfl rfl
           repeat exact sd T
           refine wa_ T (g:=?_)
           cases hr
           refine⟨rfl,?_⟩
           exact wk_ T [some 0,some 1,some 2] rfl (.rows (.rows (.rows .nil rfl rfl) rfl rfl) rfl rfl)
         ·have T:=an h23 T
          refine wa_ T (g:=?_)
          cases hr
          refine⟨rfl,?_⟩
          exact wk_ T [some 0,some 1,some 2] rfl (.rows (.rows (.rows .nil rfl rfl) rfl rfl) rfl rfl)
        ·intro e h;cases h
        ·try dsimp only
         refine wA T (g:=?_)
         obtain⟨v31,h29,hr⟩:=bs hr
         apply TO.lok (wn T) rfl Xo (tQ h29) (vw T) rfl rfl (by simp[pG,cl,e_ff,e_c,e_i,e_ii])
         repeat exact sd T
         refine wa_ T (g:=?_)
         obtain⟨v48,h42,hr⟩:=bs hr
         refine TX.loopE (step:=cS v5 v14) (x:=(v17,v31,0)) h42 (fun (v32,v33,v34)=>⟨.list 1 (v1.map e_c)::.Z::.Z::.Z::.Z::.fptr true [.v (.int .i64 v5),.v (.int .i64 v6),.v (.int .i64 v7)] 0::.Z::.Z::.Z::.Z::.Z::.v (.int .i64 v14)::.lsl 0 0 v16.length::.lsl 1 0 v32.length::.v (.int .i64 0)::.lsl 2 0 v33.length::.Z::.v (.int .i64 v34)::.Z::.Z::.Z::.Z::.Z::.Z::.Z::.Z::.Z::.Z::.Z::.Z::.Z::.Z::.Z::.Z::.Z::.Z::.Z::.Z::.Z::.Z::.Z::.Z::.Z::.Z::.Z::.Z::.Z::.Z::.Z::.Z::.Z::.Z::.Z::.Z::.Z::.Z::.Z::.Z::.Z::.Z::.Z::.Z::.Z::.Z::.Z::.Z::.Z::.Z::.Z::.Z::.Z::.Z::.Z::.Z::.Z::.Z::.Z::.Z::.Z::.Z::.Z::.Z::.Z::.Z::.Z::.Z::.Z::.Z::.Z::.Z::.Z::.Z::.Z::.Z::.Z::.Z::.Z::.Z::.Z::.Z::.Z::.Z::.Z::.Z::.Z::.Z::.Z::.Z::.Z::.Z::.Z::.Z::.Z::.Z::.Z::.Z::.Z::.Z::.Z::.Z::.Z::.Z::.Z::.Z::.Z::.Z::.Z::.Z::.Z::.Z::.Z::.Z::.Z::.Z::[],[.rows 1 (v16.map e_i),.rows 2 (v32.map e_ii),.rows 1 (v33.map e_i)]⟩) (fun v41=>(.exit 4,⟨.list 1 (v1.map e_c)::.Z::.Z::.Z::.Z::.fptr true [.v (.int .i64 v5),.v (.int .i64 v6),.v (.int .i64 v7)] 0::.Z::.Z::.Z::.Z::.Z::.v (.int .i64 v14)::.lsl 0 0 v16.length::.lsl 1 0 v41.length::.v (.int .i64 0)::.Z::.Z::.Z::.Z::.Z::.Z::.Z::.Z::.Z::.Z::.Z::.Z::.Z::.Z::.Z::.Z::.Z::.Z::.Z::.Z::.Z::.Z::.Z::.Z::.Z::.Z::.Z::.Z::.Z::.Z::.Z::.Z::.Z::.Z::.Z::.Z::.Z::.Z::.Z::.Z::.Z::.Z::.Z::.Z::.Z::.Z::.Z::.Z::.Z::.Z::.Z::.Z::.Z::.Z::.Z::.Z::.Z::.Z::.Z::.Z::.Z::.Z::.Z::.Z::.Z::.Z::.Z::.Z::.Z::.Z::.Z::.Z::.Z::.Z::.Z::.Z::.Z::.Z::.Z::.Z::.Z::.Z::.Z::.Z::.Z::.Z::.Z::.Z::.Z::.Z::.Z::.Z::.Z::.Z::.Z::.Z::.Z::.Z::.Z::.Z::.Z::.Z::.Z::.Z::.Z::.Z::.Z::.Z::.Z::.Z::.Z::.Z::.Z::.Z::.Z::.Z::.Z::.Z::.Z::[],[.rows 1 (v16.map e_i),.rows 2 (v41.map e_ii)]⟩)) ?_ ?_ ?_ ?_
         ·rintro⟨v32,v33,v34⟩ v0 hr
          dsimp only[cS] at hr
          try dsimp only
          refine wa_ T (g:=?_)
          rcases ifs hr with⟨h36,hr⟩|⟨h36,hr⟩
          ·have T:=an h36 T
           refine wa_ T (g:=?_)
           obtain⟨v42,h37,hr⟩:=bs hr
           have h37m:=bJ (f:=e_i) h37
           have h37l:=bQ h37
           try simp only[List.length_set] at h37l
           have h37a:=bW h37
           have T:=an h37m T
           have T:=an h37l T
           have T:=an h37a T
           refine wA T (g:=?_)
           rcases ifs hr with⟨h38,hr⟩|⟨h38,hr⟩
           ·have T:=an h38 T
            refine wA T (g:=?_)
            apply TD.sr e_i v33 v42 (IntKind.i64.wrap (v42-v5)) h37a (wn T) rfl rfl rfl rfl rfl ok3 (by rw[cs3];rfl) rfl rfl rfl rfl rfl
            repeat exact sd T
            refine wa_ T (g:=?_)
            obtain⟨v43,h39,hr⟩:=bs hr
            have h39m:=bJ (f:=e_i) h39
            have h39l:=bQ h39
            try simp only[List.length_set] at h39l
            have h39a:=bW h39
            have T:=an h39m T
            have T:=an h39l T
            have T:=an h39a T
            refine wA T (g:=?_)
            obtain⟨⟨v44,v45⟩,h40,hr⟩:=bs hr
            try dsimp only at hr
            have h40m:=bJ (f:=e_ii) h40
            have h40l:=bQ h40
            try simp only[List.length_set] at h40l
            have h40a:=bW h40
            repeat (first|(with_reducible first|refine mv ?_|refine m12 rfl ?_|refine TD.nil ?_)|((with_reducible first|apply TD.ia|apply TD.ia);(repeat (focus (show _=_;first|exact k1 rfl|exact k2 rfl|(simp only[zz,y79,e_c,e_i,e_ii,Nat.reduceAdd,Nat.reduceMul,Nat.reduceLeDiff,Nat.reduceEqDiff,aB,Nat.zero_add,z5,Int.reduceToNat,Int.reduceLE,Int.reduceLT,Int.cast_ofNat_Int,h2,h4,h6,h8,h10,h11,h36,h37m,h37l,h37a,h38,h39m,h39l,h39a,h40m,h40l,h40a]<;>exact rfl)|exact rfl)));(with_reducible refine TD.here ?_))|((with_reducible apply TX.drawn);(focus decide +kernel);(focus (simp only[zl]<;>exact rfl));(focus exact rfl);(try dsimp only))|fail)
            have T:=an h40m T
            have T:=an h40l T
            have T:=an h40a T
            apply TD.sr e_ii v32 (v44,v45) (v43,v45) h40a (wn T) rfl rfl rfl rfl rfl ok3 (by rw[cs3];rfl) rfl rfl rfl rfl rfl
            repeat exact sd T
            refine wa_ T (g:=?_)
            cases hr
            refine⟨rfl,?_⟩
            exact wk_ T [some 0,some 1,some 2] rfl (.rows (.rows (.rows .nil rfl rfl) rfl rfl) rfl rfl)
           ·have T:=an h38 T
            refine wA T (g:=?_)
            obtain⟨⟨v46,v47⟩,h41,hr⟩:=bs hr
            try dsimp only at hr
            have h41m:=bJ (f:=e_ii) h41
            have h41l:=bQ h41
            try simp only[List.length_set] at h41l
            have h41a:=bW h41
            repeat (first|(with_reducible first|refine mv ?_|refine m12 rfl ?_|refine TD.nil ?_)|((with_reducible first|apply TD.ia|apply TD.ia);(repeat (focus (show _=_;first|exact k1 rfl|exact k2 rfl|(simp only[zz,y79,e_c,e_i,e_ii,Nat.reduceAdd,Nat.reduceMul,Nat.reduceLeDiff,Nat.reduceEqDiff,aB,Nat.zero_add,z5,Int.reduceToNat,Int.reduceLE,Int.reduceLT,Int.cast_ofNat_Int,h2,h4,h6,h8,h10,h11,h36,h37m,h37l,h37a,h38,h41m,h41l,h41a]<;>exact rfl)|exact rfl)));(with_reducible refine TD.here ?_))|((with_reducible apply TX.drawn);(focus decide +kernel);(focus (simp only[zl]<;>exact rfl));(focus exact rfl);(try dsimp only))|fail)
            have T:=an h41m T
            have T:=an h41l T
            have T:=an h41a T
            apply TD.sr e_ii v32 (v46,v47) (v42,v47) h41a (wn T) rfl rfl rfl rfl rfl ok3 (by rw[cs3];rfl) rfl rfl rfl rfl rfl
            repeat exact sd T
            refine wa_ T (g:=?_)
            cases hr
            refine⟨rfl,?_⟩
            exact wk_ T [some 0,some 1,some 2] rfl (.rows (.rows (.rows .nil rfl rfl) rfl rfl) rfl rfl)
          ·have T:=an h36 T
           refine wa_ T (g:=?_)
           cases hr
           refine⟨rfl,?_⟩
           exact wk_ T [some 0,some 1] rfl (.rows (.rows .nil rfl rfl) rfl rfl)
         ·intro e h;cases h
         ·try dsimp only
          refine wa_ T (g:=?_)
          refine TX.unroll ?_
          refine wa_ T (g:=?_)
          obtain⟨v49,h43,hr⟩:=bs hr
          apply TD.cal (wn T) rfl Yu (rP h43) rfl rfl rfl
          repeat exact sd T
          refine wa_ T (g:=?_)
          obtain⟨v50,h44,hr⟩:=bs hr
          apply TD.lok (wn T) rfl Zw (tN h44) (vw T) rfl rfl (by simp[pG,cl,e_ff,e_c,e_i,e_ii])
          repeat exact sd T
          refine wA T (g:=?_)
          obtain⟨v51,h45,hr⟩:=bs hr
          apply TD.lok (wn T) rfl Ta (jP h45) (vw T) rfl rfl (by simp[pG,cl,e_ff,e_c,e_i,e_ii])
          repeat exact sd T
          refine wa_ T (g:=?_)
          obtain⟨v61,h56,hr⟩:=bs hr
          refine TX.loopE (step:=cP v5 v14 v16) (x:=(v51,0)) h56 (fun (v52,v53)=>⟨.list 1 (v1.map e_c)::.Z::.Z::.Z::.Z::.fptr true [.v (.int .i64 v5),.v (.int .i64 v6),.v (.int .i64 v7)] 0::.Z::.Z::.Z::.Z::.Z::.v (.int .i64 v14)::.lsl 0 0 v16.length::.lsl 1 0 v48.length::.v (.int .i64 1)::.lsl 2 0 v52.length::.v (.int .i64 v53)::.Z::.Z::.Z::.Z::.Z::.Z::.Z::.Z::.Z::.Z::.Z::.Z::.Z::.Z::.Z::.Z::.Z::.Z::.Z::.Z::.Z::.Z::.Z::.Z::.Z::.Z::.Z::.Z::.Z::.Z::.Z::.Z::.Z::.Z::.Z::.Z::.Z::.Z::.Z::.Z::.Z::.Z::.Z::.Z::.Z::.Z::.Z::.Z::.Z::.Z::.Z::.Z::.Z::.Z::.Z::.Z::.Z::.Z::.Z::.Z::.Z::.Z::.Z::.Z::.Z::.Z::.Z::.Z::.Z::.Z::.Z::.Z::.Z::.Z::.Z::.Z::.Z::.Z::.Z::.Z::.Z::.Z::.Z::.Z::.Z::.Z::.Z::.Z::.Z::.Z::.Z::.Z::.Z::.Z::.Z::.Z::.Z::.Z::.Z::.Z::.Z::.Z::.Z::.Z::.Z::.Z::.Z::.Z::.Z::.Z::.Z::.Z::.Z::.Z::.Z::.Z::.Z::[],[.rows 1 (v16.map e_i),.rows 2 (v48.map e_ii),.rows 1 (v52.map e_i)]⟩) (fun v57=>(.exit 2,⟨.list 1 (v1.map e_c)::.Z::.Z::.Z::.Z::.fptr true [.v (.int .i64 v5),.v (.int .i64 v6),.v (.int .i64 v7)] 0::.Z::.Z::.Z::.Z::.Z::.v (.int .i64 v14)::.lsl 0 0 v16.length::.lsl 1 0 v48.length::.v (.int .i64 1)::.lsl 2 0 v57.length::.Z::.Z::.Z::.Z::.Z::.Z::.Z::.Z::.Z::.Z::.Z::.Z::.Z::.Z::.Z::.Z::.Z::.Z::.Z::.Z::.Z::.Z::.Z::.Z::.Z::.Z::.Z::.Z::.Z::.Z::.Z::.Z::.Z::.Z::.Z::.Z::.Z::.Z::.Z::.Z::.Z::.Z::.Z::.Z::.Z::.Z::.Z::.Z::.Z::.Z::.Z::.Z::.Z::.Z::.Z::.Z::.Z::.Z::.Z::.Z::.Z::.Z::.Z::.Z::.Z::.Z::.Z::.Z::.Z::.Z::.Z::.Z::.Z::.Z::.Z::.Z::.Z::.Z::.Z::.Z::.Z::.Z::.Z::.Z::.Z::.Z::.Z::.Z::.Z::.Z::.Z::.Z::.Z::.Z::.Z::.Z::.Z::.Z::.Z::.Z::.Z::.Z::.Z::.Z::.Z::.Z::.Z::.Z::.Z::.Z::.Z::.Z::.Z::.Z::.Z::.Z::.Z::.Z::[],[.rows 1 (v16.map e_i),.rows 2 (v48.map e_ii),.rows 1 (v57.map e_i)]⟩)) ?_ ?_ ?_ ?_
          ·rintro⟨v52,v53⟩ v0 hr
           dsimp only[cP] at hr
           try dsimp only
           refine wa_ T (g:=?_)
           rcases ifs hr with⟨h51,hr⟩|⟨h51,hr⟩
           ·have T:=an h51 T
            refine wa_ T (g:=?_)
            obtain⟨v58,h52,hr⟩:=bs hr
            have h52m:=bJ (f:=e_i) h52
            have h52l:=bQ h52
            try simp only[List.length_set] at h52l
            have h52a:=bW h52
            have T:=an h52m T
            have T:=an h52l T
            have T:=an h52a T
            refine wA T (g:=?_)
            obtain⟨v59,h53,hr⟩:=bs hr
            have T:=an (gx e_i h53) T
            refine wA T (g:=?_)
            obtain⟨v60,h54,hr⟩:=bs hr
            apply TD.cal (wn T) rfl Lg (jM h54) rfl rfl rfl
            repeat exact sd T
            refine wA T (g:=?_)
            by_cases h55:v5=0
            ·rw[if_pos h55] at hr
             cases hr
            ·rw[if_neg h55] at hr
             have T:=an h55 T
             refine wa_ T (g:=?_)
             apply TD.sr e_i v52 v58 ((IntKind.i64.wrap (v58*v60)).tmod v5) h52a (wn T) rfl rfl rfl rfl rfl ok3 (by rw[cs3];rfl) rfl rfl rfl rfl rfl
             repeat exact sd T
             refine wa_ T (g:=?_)
             cases hr
             refine⟨rfl,?_⟩
             exact wk_ T [some 0,some 1,some 2] rfl (.rows (.rows (.rows .nil rfl rfl) rfl rfl) rfl rfl)
           ·have T:=an h51 T
            refine wa_ T (g:=?_)
            cases hr
            refine⟨rfl,?_⟩
            exact wk_ T [some 0,some 1,some 2] rfl (.rows (.rows (.rows .nil rfl rfl) rfl rfl) rfl rfl)
          ·intro e h;cases h
          ·try dsimp only
           refine wA T (g:=?_)
           obtain⟨v62,h57,hr⟩:=bs hr
           apply TO.lok (wn T) rfl Xo (tQ h57) (vw T) rfl rfl (by simp[pG,cl,e_ff,e_c,e_i,e_ii])
           repeat exact sd T
           refine wa_ T (g:=?_)
           obtain⟨v79,h70,hr⟩:=bs hr
           refine TX.loopE (step:=cQ v5 v14) (x:=(v48,v62,0)) h70 (fun (v63,v64,v65)=>⟨.list 1 (v1.map e_c)::.Z::.Z::.Z::.Z::.fptr true [.v (.int .i64 v5),.v (.int .i64 v6),.v (.int .i64 v7)] 0::.Z::.Z::.Z::.Z::.Z::.v (.int .i64 v14)::.lsl 0 0 v16.length::.lsl 1 0 v63.length::.v (.int .i64 1)::.lsl 2 0 v64.length::.Z::.v (.int .i64 v65)::.Z::.Z::.Z::.Z::.Z::.Z::.Z::.Z::.Z::.Z::.Z::.Z::.Z::.Z::.Z::.Z::.Z::.Z::.Z::.Z::.Z::.Z::.Z::.Z::.Z::.Z::.Z::.Z::.Z::.Z::.Z::.Z::.Z::.Z::.Z::.Z::.Z::.Z::.Z::.Z::.Z::.Z::.Z::.Z::.Z::.Z::.Z::.Z::.Z::.Z::.Z::.Z::.Z::.Z::.Z::.Z::.Z::.Z::.Z::.Z::.Z::.Z::.Z::.Z::.Z::.Z::.Z::.Z::.Z::.Z::.Z::.Z::.Z::.Z::.Z::.Z::.Z::.Z::.Z::.Z::.Z::.Z::.Z::.Z::.Z::.Z::.Z::.Z::.Z::.Z::.Z::.Z::.Z::.Z::.Z::.Z::.Z::.Z::.Z::.Z::.Z::.Z::.Z::.Z::.Z::.Z::.Z::.Z::.Z::.Z::.Z::.Z::.Z::.Z::.Z::.Z::[],[.rows 1 (v16.map e_i),.rows 2 (v63.map e_ii),.rows 1 (v64.map e_i)]⟩) (fun v72=>(.exit 4,⟨.list 1 (v1.map e_c)::.Z::.Z::.Z::.Z::.fptr true [.v (.int .i64 v5),.v (.int .i64 v6),.v (.int .i64 v7)] 0::.Z::.Z::.Z::.Z::.Z::.v (.int .i64 v14)::.lsl 0 0 v16.length::.lsl 1 0 v72.length::.v (.int .i64 1)::.Z::.Z::.Z::.Z::.Z::.Z::.Z::.Z::.Z::.Z::.Z::.Z::.Z::.Z::.Z::.Z::.Z::.Z::.Z::.Z::.Z::.Z::.Z::.Z::.Z::.Z::.Z::.Z::.Z::.Z::.Z::.Z::.Z::.Z::.Z::.Z::.Z::.Z::.Z::.Z::.Z::.Z::.Z::.Z::.Z::.Z::.Z::.Z::.Z::.Z::.Z::.Z::.Z::.Z::.Z::.Z::.Z::.Z::.Z::.Z::.Z::.Z::.Z::.Z::.Z::.Z::.Z::.Z::.Z::.Z::.Z::.Z::.Z::.Z::.Z::.Z::.Z::.Z::.Z::.Z::.Z::.Z::.Z::.Z::.Z::.Z::.Z::.Z::.Z::.Z::.Z::.Z::.Z::.Z::.Z::.Z::.Z::.Z::.Z::.Z::.Z::.Z::.Z::.Z::.Z::.Z::.Z::.Z::.Z::.Z::.Z::.Z::.Z::.Z::.Z::.Z::.Z::.Z::.Z::[],[.rows 1 (v16.map e_i),.rows 2 (v72.map e_ii)]⟩)) ?_ ?_ ?_ ?_
           ·rintro⟨v63,v64,v65⟩ v0 hr
            dsimp only[cQ] at hr
            try dsimp only
            refine wa_ T (g:=?_)
            rcases ifs hr with⟨h64,hr⟩|⟨h64,hr⟩
            ·have T:=an h64 T
             refine wa_ T (g:=?_)
             obtain⟨v73,h65,hr⟩:=bs hr
             have h65m:=bJ (f:=e_i) h65
             have h65l:=bQ h65
             try simp only[List.length_set] at h65l
             have h65a:=bW h65
             have T:=an h65m T
             have T:=an h65l T
             have T:=an h65a T
             refine wA T (g:=?_)
             rcases ifs hr with⟨h66,hr⟩|⟨h66,hr⟩
             ·have T:=an h66 T
              refine wA T (g:=?_)
              apply TD.sr e_i v64 v73 (IntKind.i64.wrap (v73-v5)) h65a (wn T) rfl rfl rfl rfl rfl ok3 (by rw[cs3];rfl) rfl rfl rfl rfl rfl
              repeat exact sd T
              refine wa_ T (g:=?_)
              obtain⟨v74,h67,hr⟩:=bs hr
              have h67m:=bJ (f:=e_i) h67
              have h67l:=bQ h67
              try simp only[List.length_set] at h67l
              have h67a:=bW h67
              have T:=an h67m T
              have T:=an h67l T
              have T:=an h67a T
              refine wA T (g:=?_)
              obtain⟨⟨v75,v76⟩,h68,hr⟩:=bs hr
              try dsimp only at hr
              have h68m:=bJ (f:=e_ii) h68
              have h68l:=bQ h68
              try simp only[List.length_set] at h68l
              have h68a:=bW h68
              repeat (first|(with_reducible first|refine mv ?_|refine m12 rfl ?_|refine TD.nil ?_)|((with_reducible first|apply TD.ia|apply TD.ia);(repeat (focus (show _=_;first|exact k1 rfl|exact k2 rfl|(simp only[zz,y79,e_c,e_i,e_ii,Nat.reduceAdd,Nat.reduceMul,Nat.reduceLeDiff,Nat.reduceEqDiff,aB,Nat.zero_add,z5,Int.reduceToNat,Int.reduceLE,Int.reduceLT,Int.cast_ofNat_Int,h2,h4,h6,h8,h10,h11,h64,h65m,h65l,h65a,h66,h67m,h67l,h67a,h68m,h68l,h68a]<;>exact rfl)|exact rfl)));(with_reducible refine TD.here ?_))|((with_reducible apply TX.drawn);(focus decide +kernel);(focus (simp only[zl]<;>exact rfl));(focus exact rfl);(try dsimp only))|fail)
              have T:=an h68m T
              have T:=an h68l T
              have T:=an h68a T
              apply TD.sr e_ii v63 (v75,v76) (v75,v74) h68a (wn T) rfl rfl rfl rfl rfl ok3 (by rw[cs3];rfl) rfl rfl rfl rfl rfl
              repeat exact sd T
              refine wa_ T (g:=?_)
              cases hr
              refine⟨rfl,?_⟩
              exact wk_ T [some 0,some 1,some 2] rfl (.rows (.rows (.rows .nil rfl rfl) rfl rfl) rfl rfl)
             ·have T:=an h66 T
              refine wA T (g:=?_)
              obtain⟨⟨v77,v78⟩,h69,hr⟩:=bs hr
              try dsimp only at hr
              have h69m:=bJ (f:=e_ii) h69
              have h69l:=bQ h69
              try simp only[List.length_set] at h69l
              have h69a:=bW h69
              repeat (first|(with_reducible first|refine mv ?_|refine m12 rfl ?_|refine TD.nil ?_)|((with_reducible first|apply TD.ia|apply TD.ia);(repeat (focus (show _=_;first|exact k1 rfl|exact k2 rfl|(simp only[zz,y79,e_c,e_i,e_ii,Nat.reduceAdd,Nat.reduceMul,Nat.reduceLeDiff,Nat.reduceEqDiff,aB,Nat.zero_add,z5,Int.reduceToNat,Int.reduceLE,Int.reduceLT,Int.cast_ofNat_Int,h2,h4,h6,h8,h10,h11,h64,h65m,h65l,h65a,h66,h69m,h69l,h69a]<;>exact rfl)|exact rfl)));(with_reducible refine TD.here ?_))|((with_reducible apply TX.drawn);(focus decide +kernel);(focus (simp only[zl]<;>exact rfl));(focus exact rfl);(try dsimp only))|fail)
              have T:=an h69m T
              have T:=an h69l T
              have T:=an h69a T
              apply TD.sr e_ii v63 (v77,v78) (v77,v73) h69a (wn T) rfl rfl rfl rfl rfl ok3 (by rw[cs3];rfl) rfl rfl rfl rfl rfl
              repeat exact sd T
              refine wa_ T (g:=?_)
              cases hr
              refine⟨rfl,?_⟩
              exact wk_ T [some 0,some 1,some 2] rfl (.rows (.rows (.rows .nil rfl rfl) rfl rfl) rfl rfl)
            ·have T:=an h64 T
             refine wa_ T (g:=?_)
             cases hr
             refine⟨rfl,?_⟩
             exact wk_ T [some 0,some 1] rfl (.rows (.rows .nil rfl rfl) rfl rfl)
           ·intro e h;cases h
           ·try dsimp only
            refine wa_ T (g:=?_)
            obtain⟨_,h71,hr⟩:=bs hr
            refine TX.loopE (step:=fW) (x:=()) h71 (fun _=>⟨.list 1 (v1.map e_c)::.Z::.Z::.Z::.Z::.fptr true [.v (.int .i64 v5),.v (.int .i64 v6),.v (.int .i64 v7)] 0::.Z::.Z::.Z::.Z::.Z::.v (.int .i64 v14)::.lsl 0 0 v16.length::.lsl 1 0 v79.length::.v (.int .i64 2)::.Z::.Z::.Z::.Z::.Z::.Z::.Z::.Z::.Z::.Z::.Z::.Z::.Z::.Z::.Z::.Z::.Z::.Z::.Z::.Z::.Z::.Z::.Z::.Z::.Z::.Z::.Z::.Z::.Z::.Z::.Z::.Z::.Z::.Z::.Z::.Z::.Z::.Z::.Z::.Z::.Z::.Z::.Z::.Z::.Z::.Z::.Z::.Z::.Z::.Z::.Z::.Z::.Z::.Z::.Z::.Z::.Z::.Z::.Z::.Z::.Z::.Z::.Z::.Z::.Z::.Z::.Z::.Z::.Z::.Z::.Z::.Z::.Z::.Z::.Z::.Z::.Z::.Z::.Z::.Z::.Z::.Z::.Z::.Z::.Z::.Z::.Z::.Z::.Z::.Z::.Z::.Z::.Z::.Z::.Z::.Z::.Z::.Z::.Z::.Z::.Z::.Z::.Z::.Z::.Z::.Z::.Z::.Z::.Z::.Z::.Z::.Z::.Z::.Z::.Z::.Z::.Z::.Z::.Z::[],[.rows 1 (v16.map e_i),.rows 2 (v79.map e_ii)]⟩) (fun _=>(.exit 0,⟨.Z::.Z::.Z::.Z::.Z::.Z::.Z::.Z::.Z::.Z::.Z::.Z::.Z::.lsl 0 0 v79.length::.Z::.Z::.Z::.Z::.Z::.Z::.Z::.Z::.Z::.Z::.Z::.Z::.Z::.Z::.Z::.Z::.Z::.Z::.Z::.Z::.Z::.Z::.Z::.Z::.Z::.Z::.Z::.Z::.Z::.Z::.Z::.Z::.Z::.Z::.Z::.Z::.Z::.Z::.Z::.Z::.Z::.Z::.Z::.Z::.Z::.Z::.Z::.Z::.Z::.Z::.Z::.Z::.Z::.Z::.Z::.Z::.Z::.Z::.Z::.Z::.Z::.Z::.Z::.Z::.Z::.Z::.Z::.Z::.Z::.Z::.Z::.Z::.Z::.Z::.Z::.Z::.Z::.Z::.Z::.Z::.Z::.Z::.Z::.Z::.Z::.Z::.Z::.Z::.Z::.Z::.Z::.Z::.Z::.Z::.Z::.Z::.Z::.Z::.Z::.Z::.Z::.Z::.Z::.Z::.Z::.Z::.Z::.Z::.Z::.Z::.Z::.Z::.Z::.Z::.Z::.Z::.Z::.Z::.Z::.Z::[],[.rows 2 (v79.map e_ii)]⟩)) ?_ ?_ ?_ ?_
            ·rintro _ v0 hr
             dsimp only[fW] at hr
             try dsimp only
             refine wa_ T (g:=?_)
             cases hr
             refine⟨rfl,?_⟩
             exact wk_ T [some 1] rfl (.rows .nil rfl rfl)
            ·intro e h;cases h
            ·try dsimp only
             refine wa_ T (g:=?_)
             obtain⟨⟨v80,v81⟩,h72,hr⟩:=bs hr
             try dsimp only at hr
             apply TO.lok (wn T) rfl aB8 (Ej h72) (vw T) rfl rfl (by simp[pG,cl,e_ff,e_c,e_i,e_ii])
             repeat exact sd T
             refine wa_ T (g:=?_)
             cases hr
             refine⟨.inr rfl,_,(ry T),?_⟩
             exact wk_ T [some 1] rfl (.rows .nil rfl rfl)
            ·try dsimp only
             exact wk_ T [some 0,some 1] rfl (.rows (.rows .nil rfl rfl) rfl rfl)
           ·try dsimp only
            exact wk_ T [some 0,some 1,some 3] rfl (.rows (.rows (.rows .nil rfl rfl) rfl rfl) rfl rfl)
          ·try dsimp only
           exact wk_ T [some 0,some 1,some 4] rfl (.rows (.rows (.rows .nil rfl rfl) rfl rfl) rfl rfl)
         ·try dsimp only
          exact wk_ T [some 0,some 1,some 3] rfl (.rows (.rows (.rows .nil rfl rfl) rfl rfl) rfl rfl)
        ·try dsimp only
         exact wk_ T [some 1,some 2,some 5] rfl (.rows (.rows (.rows .nil rfl rfl) rfl rfl) rfl rfl)
     ·have T:=an h8 T
      refine wa_ T (g:=?_)
      cases hr
      refine⟨.inr rfl,_,(ry T),?_⟩
      exact wk_ T [none] rfl (.virt .nil)
 rfl
end Go.Rex
namespace Go.Rex
open Go.Proofs
open Go Go.Rex Go.RowKit
set_option maxRecDepth 100000
set_option maxHeartbeats 200000
def y80:=@ex94
theorem yZ{v1:Nat}{v2:Nat}{v3:Nat}{v4:Nat}{v5:Bool}(hr:nZ v1 v2 v3 v4=some (v5)):Spec (lim Tryz.prog) 52 [.v (.complex .f64 v1 v2),.v (.complex .f64 v3 v4)] ⟨[.v (.bool v5)],[]⟩:=by
 unfold nZ at hr
 have T:=y80
 apply Spec.fn Tryz.func52 rfl
 focus (simp[Tryz.f52]<;>exact rfl)
 focus
  refine wa_ T (g:=?_)
  apply TO.pop1 (wn T) (rV rfl)
  repeat exact sd T
  refine wa_ T (g:=?_)
  obtain⟨v6,h1,hr⟩:=bs hr
  apply TO.fb (wn T) rfl ex94 (by simp only[z1,z3,zl]<;>rfl) h1 rfl
  repeat exact sd T
  refine wa_ T (g:=?_)
  apply TO.pop1 (wn T) (rV rfl)
  repeat exact sd T
  refine wa_ T (g:=?_)
  obtain⟨v7,h2,hr⟩:=bs hr
  apply TO.fb (wn T) rfl ex94 (by simp only[z1,z3,zl]<;>rfl) h2 rfl
  repeat exact sd T
  refine wa_ T (g:=?_)
  rcases ifs hr with⟨h3,hr⟩|⟨h3,hr⟩
  ·have T:=an h3 T
   refine wa_ T (g:=?_)
   apply TO.pop1 (wn T) (rY rfl)
   repeat exact sd T
   refine wa_ T (g:=?_)
   obtain⟨v8,h4,hr⟩:=bs hr
   apply TO.fb (wn T) rfl ex94 (by simp only[z1,z3,zl]<;>rfl) h4 rfl
   repeat exact sd T
   refine wa_ T (g:=?_)
   apply TO.pop1 (wn T) (rY rfl)
   repeat exact sd T
   refine wa_ T (g:=?_)
   obtain⟨v9,h5,hr⟩:=bs hr
   apply TO.fb (wn T) rfl ex94 (by simp only[z1,z3,zl]<;>rfl) h5 rfl
   repeat exact sd T
   refine wa_ T (g:=?_)
   cases hr
   refine⟨.inr rfl,_,(ry T),?_⟩
   exact wk_ T [] rfl .nil
  ·have T:=an h3 T
   refine wa_ T (g:=?_)
   cases hr
   refine⟨.inr rfl,_,(ry T),?_⟩
   exact wk_ T [] rfl .nil
 rfl
def y81:=an @ag84 <| an @cs84 <| an @ok84 <| an @so31 <| an @un84 <| an @un94 <| @bD
theorem uA{v1:(List (Nat×Nat))}{v2:(List (Nat×Nat))}{v3:Bool}(hr:aN v1 v2=some (v3)):Spec (lim Tryz.prog) 12 [.list 1 (v1.map e_c),.list 1 (v2.map e_c)] ⟨[.v (.bool v3)],[]⟩:=by
 unfold aN at hr
 have T:=an y81 <| @e_c.eq_1
 apply Spec.fn Tryz.func12 rfl
 focus (simp[Tryz.f12]<;>exact rfl)
 focus
  refine wc_ T (g:=?_)
  rcases ifs hr with⟨h1,hr⟩|⟨h1,hr⟩
  ·have T:=an h1 T
   refine wa_ T (g:=?_)
   cases hr
   refine⟨.inr rfl,_,(ry T),?_⟩
   exact wk_ T [] rfl .nil
  ·have T:=an h1 T
   refine wa_ T (g:=?_)
   obtain⟨v23,h20,hr⟩:=bs hr
   refine TX.loopE (step:=eR v1 v2) (x:=0) h20 (fun v4=>⟨.list 1 (v1.map e_c)::.list 1 (v2.map e_c)::.Z::.Z::.Z::.v (.int .i64 v4)::.Z::.Z::.Z::.Z::.Z::.Z::.Z::.Z::.Z::.Z::.Z::.Z::.Z::.Z::.Z::.Z::.Z::.Z::.Z::.Z::.Z::.Z::.Z::[],[]⟩) (fun e=>match e with|(.inl _)=>(.ret,⟨.Z::.Z::.Z::.Z::.v (.bool false)::.Z::.Z::.Z::.Z::.Z::.Z::.Z::.Z::.Z::.Z::.Z::.Z::.Z::.Z::.Z::.Z::.Z::.Z::.Z::.Z::.Z::.Z::.Z::.Z::[],[]⟩)|(.inr _)=>(.exit 0,⟨.Z::.Z::.Z::.Z::.Z::.Z::.Z::.Z::.Z::.Z::.Z::.Z::.Z::.Z::.Z::.Z::.Z::.Z::.Z::.Z::.Z::.Z::.Z::.Z::.Z::.Z::.Z::.Z::.Z::[],[]⟩)) ?_ ?_ ?_ ?_
   ·rintro v4 v0 hr
    dsimp only[eR] at hr
    try dsimp only
    refine wc_ T (g:=?_)
    rcases ifs hr with⟨h11,hr⟩|⟨h11,hr⟩
    ·have T:=an h11 T
     refine wa_ T (g:=?_)
     obtain⟨⟨v14,v15⟩,h12,hr⟩:=bs hr
     try dsimp only at hr
     have T:=an (gx e_c h12) T
     refine wA T (g:=?_)
     obtain⟨v16,h13,hr⟩:=bs hr
     obtain⟨v17,h14,hr⟩:=bs hr
     apply TD.pop1 (wn T) (Dq un84 un94 rfl h13 h14)
     repeat exact sd T
     refine wa_ T (g:=?_)
     obtain⟨⟨v18,v19⟩,h15,hr⟩:=bs hr
     try dsimp only at hr
     have T:=an (gx e_c h15) T
     refine wA T (g:=?_)
     obtain⟨v20,h16,hr⟩:=bs hr
     obtain⟨v21,h17,hr⟩:=bs hr
     apply TD.pop1 (wn T) (Dq un84 un94 rfl h16 h17)
     repeat exact sd T
     refine wa_ T (g:=?_)
     obtain⟨v22,h18,hr⟩:=bs hr
     apply TD.cal (wn T) rfl aCn (yZ h18) rfl rfl rfl
     repeat exact sd T
     refine wa_ T (g:=?_)
     apply TD.pop1 (wn T) (cG rfl)
     repeat exact sd T
     refine wa_ T (g:=?_)
     rcases ifs hr with⟨h19,hr⟩|⟨h19,hr⟩
     ·have T:=an h19 T
      refine wa_ T (g:=?_)
      cases hr
      refine⟨rfl,?_⟩
      exact wk_ T [] rfl .nil
     ·have T:=an h19 T
      refine wa_ T (g:=?_)
      cases hr
      refine⟨rfl,?_⟩
      exact wk_ T [] rfl .nil
    ·have T:=an h11 T
     refine wa_ T (g:=?_)
     cases hr
     refine⟨rfl,?_⟩
     exact wk_ T [] rfl .nil
   ·intro e h;rcases e with _|e<;>cases h
   ·try dsimp only
    rcases v23 with _|_
    ·try dsimp only at hr
     try dsimp only
     refine wa_ T (g:=?_)
     cases hr
     refine⟨.inr rfl,_,(ry T),?_⟩
     exact wk_ T [] rfl .nil
    ·try dsimp only at hr
     try dsimp only
     refine wa_ T (g:=?_)
     cases hr
     refine⟨.inr rfl,_,(ry T),?_⟩
     exact wk_ T [] rfl .nil
   ·try dsimp only
    exact wk_ T [] rfl .nil
 rfl
end Go.Rex
namespace Go.Rex
open Go.Proofs
open Go Go.Rex Go.RowKit
set_option maxRecDepth 100000
theorem follows:Tryz.prog.follows .mixedOrders=true:=by decide +kernel
theorem awake_true:AwT Tryz.prog 6:=Lj follows (k:=1000) (d:=50) (by decide +kernel)
end Go.Rex
namespace Go.Rex
open Go.Proofs
open Go Go.Rex Go.RowKit
set_option maxRecDepth 100000
set_option maxHeartbeats 4000000
def y82:=an @ag24 <| an @ag28 <| an @ag50 <| an @cs28 <| an @cs50 <| an @Br <| an @Md <| an @ok28 <| an @ok50 <| @so24
theorem sB{v1:(List (Nat×Nat))}{v2:Int}{v3:(List Int)}{v4:Int}{v5:Int}{v6:Int}{v7:Int}(hr:iZ v1 v2 v3 v4 v5 v6 v7=some true){Fz:Nat→Prop}{h:List Blk}{vs:List Value}(hfz:FZ Fz h)(hargs:VLs Fz h noL [.list 2 (v1.map e_ff),.agg [.v (.int .i64 v2),.list 1 (v3.map e_i),.v (.int .i64 v4)],.agg [.v (.int .i64 v5),.v (.int .i64 v6),.v (.int .i64 v7)]] vs)
 {B lo:Nat} {D:Nat→Prop} {m:NMap} {w:World} {args':List Value} (hrel:Rel B lo D m h w) (hlo:lo≤h.length) (hargs':VRs D m vs args'):Calls Tryz.prog 5 ⟨args'⟩ w (fun e w'=>e = .returned (.bool true)∧Below w.heap.size w w'):=by
 unfold iZ at hr
 have T:=an y82 <| an @e_ff.eq_1 <| @e_i.eq_1
 refine aAC follows awake_true Tryz.func5 rfl (tm0:=.list 2 (v1.map e_ff)::.agg [.v (.int .i64 v2),.list 1 (v3.map e_i),.v (.int .i64 v4)]::.agg [.v (.int .i64 v5),.v (.int .i64 v6),.v (.int .i64 v7)]::.Z::.Z::.Z::.Z::.Z::.Z::.Z::.Z::.Z::.Z::.Z::.Z::.Z::.Z::.Z::.Z::.Z::.Z::.Z::.Z::.Z::.Z::.Z::.Z::.Z::.Z::.Z::.Z::.Z::.Z::.Z::.Z::.Z::.Z::.Z::.Z::.Z::.Z::.Z::.Z::.Z::.Z::.Z::.Z::.Z::[]) (by simp[Tryz.f5]<;>exact rfl) ?_ hfz hargs hrel hlo hargs'
 refine wb_ T (g:=?_)
 apply TO.cal (wn T) rfl aCZ Spec.awake rfl rfl rfl
 repeat exact sd T
 refine wa_ T (g:=?_)
 apply TO.pop1 (wn T) (cG rfl)
 repeat exact sd T
 refine wa_ T (g:=?_)
 obtain⟨v9,h1,hr⟩:=bs hr
 apply TO.cal (wn T) rfl aCM (Spec.ov (Gy h1) (by decide)) rfl rfl rfl
 repeat exact sd T
 refine wa_ T (g:=?_)
 apply TO.pop1 (wn T) (cG rfl)
 repeat exact sd T
 refine wa_ T (g:=?_)
 rcases ifs hr with⟨h2,hr⟩|⟨h2,hr⟩
 ·have T:=an h2 T
  refine wC T (g:=?_)
  rcases ifs hr with⟨h3,hr⟩|⟨h3,hr⟩
  ·have T:=an h3 T
   refine wa_ T (g:=?_)
   exact lv T hr
  ·have T:=an h3 T
   refine wa_ T (g:=?_)
   obtain⟨v10,h4,hr⟩:=bs hr
   apply TD.cal (wn T) rfl aBh (Spec.ov (tX h4) (by decide)) rfl rfl rfl
   repeat exact sd T
   refine wA T (g:=?_)
   obtain⟨⟨v11,v12,v13⟩,h5,hr⟩:=bs hr
   try dsimp only at hr
   apply TD.cal (wn T) rfl aCu (Spec.ov (Be h5) (by decide)) rfl rfl rfl
   repeat exact sd T
   refine wA T (g:=?_)
   obtain⟨⟨v14,v15⟩,h6,hr⟩:=bs hr
   try dsimp only at hr
   apply TD.lok (wn T) rfl aBq (Spec.ov (uT h6) (by decide)) (vw T) rfl rfl (by simp[pG,cl,e_ff,e_c,e_i,e_ii])
   repeat exact sd T
   refine wa_ T (g:=?_)
   obtain⟨v16,h7,hr⟩:=bs hr
   apply TD.cal (wn T) rfl aBh (Spec.ov (tX h7) (by decide)) rfl rfl rfl
   repeat exact sd T
   refine wA T (g:=?_)
   obtain⟨⟨v17,v18⟩,h8,hr⟩:=bs hr
   try dsimp only at hr
   apply TD.lok (wn T) rfl aBB (Spec.ov (uJ h8) (by decide)) (vw T) rfl rfl (by simp[pG,cl,e_ff,e_c,e_i,e_ii])
   repeat exact sd T
   refine wa_ T (g:=?_)
   rcases ifs hr with⟨h9,hr⟩|⟨h9,hr⟩
   ·have T:=an h9 T
    refine wa_ T (g:=?_)
    obtain⟨v19,h10,hr⟩:=bs hr
    apply TO.lok (wn T) rfl aBt (Spec.ov (uA h10) (by decide)) (vw T) rfl rfl (by simp[pG,cl,e_ff,e_c,e_i,e_ii])
    repeat exact sd T
    refine wa_ T (g:=?_)
    exact lv T hr
   ·have T:=an h9 T
    refine wa_ T (g:=?_)
    exact lv T hr
 ·have T:=an h2 T
  refine wa_ T (g:=?_)
  exact lv T hr
end Go.Rex
