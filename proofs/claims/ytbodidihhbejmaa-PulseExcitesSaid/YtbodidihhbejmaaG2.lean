/- Proofs that the program's functions do what these plain functions say. -/
import Derived.Test.YtbodidihhbejmaaGB
import Derived.Test.YtbodidihhbejmaaS
import Derived.Test.YtbodidihhbejmaaG1
set_option linter.unusedSimpArgs false
set_option linter.unusedVariables false
set_option linter.defProp false
namespace Go.Rex
open Go.Proofs
open Go Go.Rex Go.RowKit
set_option maxRecDepth 100000
set_option maxHeartbeats 200000
def y48:=an @ag3 <| an @ar47 <| an @by47 <| an @cs3 <| an @cs47 <| an @ok3 <| an @ok47 <| an @so46 <| an @so47 <| an @zc47 <| @wi64_0a1
theorem ref04_folded_spec {v1 : (List (Int × Int))} {v2 : Int} {v3 : (List (Int × Int))} (hr : ref04_folded v1 v2 = some (v3)) : Spec (lim Try.prog) 48 [.list 2 (v1.map e_ii),.v (.int .i64 v2)] ⟨[.lsl 0 0 v3.length],[.rows 2 (v3.map e_ii)]⟩:=by
  unfold ref04_folded at hr
  have T:=an y48 <| @e_ii.eq_1
  apply Spec.fn Try.func48 rfl
  focus (simp [Try.f48]<;>exact rfl)
  focus
    refine wa_ T (g:=?_)
    obtain ⟨v4,h1,hr⟩:=bs hr
    apply TO.mk e_ii h1 (wn T) rfl rfl so46 zc47 by47 rfl rfl rfl
    repeat exact sd T
    refine wa_ T (g:=?_)
    obtain ⟨v20,h12,hr⟩:=bs hr
    refine TX.loopE (step:=ref04_folded_l1 v1 v2) (x:=(v4,0)) h12 (fun (v5,v6)=>⟨.list 2 (v1.map e_ii) :: .v (.int .i64 v2) :: .junk :: .junk :: .junk :: .lsl 0 0 v5.length :: .v (.int .i64 v6) :: .junk :: .junk :: .junk :: .junk :: .junk :: .junk :: .junk :: .junk :: .junk :: .junk :: .junk :: .junk :: .junk :: .junk :: .junk :: .junk :: .junk :: .junk :: .junk :: .junk :: .junk :: .junk :: .junk :: .junk :: .junk :: .junk :: .junk :: .junk :: .junk :: .junk :: .junk :: .junk :: .junk :: .junk :: .junk :: .junk :: .junk :: .junk :: .junk :: .junk :: .junk :: .junk :: .junk :: .junk :: .junk :: .junk :: .junk :: [],[.rows 2 (v5.map e_ii)]⟩) (fun v13=>(.exit 0,⟨.junk :: .junk :: .junk :: .junk :: .junk :: .lsl 0 0 v13.length :: .junk :: .junk :: .junk :: .junk :: .junk :: .junk :: .junk :: .junk :: .junk :: .junk :: .junk :: .junk :: .junk :: .junk :: .junk :: .junk :: .junk :: .junk :: .junk :: .junk :: .junk :: .junk :: .junk :: .junk :: .junk :: .junk :: .junk :: .junk :: .junk :: .junk :: .junk :: .junk :: .junk :: .junk :: .junk :: .junk :: .junk :: .junk :: .junk :: .junk :: .junk :: .junk :: .junk :: .junk :: .junk :: .junk :: .junk :: .junk :: [],[.rows 2 (v13.map e_ii)]⟩)) ?_ ?_ ?_ ?_
    · rintro ⟨v5,v6⟩ v0 hr
      dsimp only [ref04_folded_l1] at hr
      try dsimp only
      refine wc_ T (g:=?_)
      rcases ifs hr with ⟨h7,hr⟩|⟨h7,hr⟩
      · have T:=an h7 T
        refine wa_ T (g:=?_)
        by_cases h8 : v2 = 0
        · rw [if_pos h8] at hr
          cases hr
        · rw [if_neg h8] at hr
          have T:=an h8 T
          refine wa_ T (g:=?_)
          obtain ⟨⟨v14,v15⟩,h9,hr⟩:=bs hr
          try dsimp only at hr
          have h9m:=tidx_map (f:=e_ii) h9
          have h9l:=getI_lt h9
          try simp only [List.length_set] at h9l
          have h9a:=getI_at h9
          repeat (first|(with_reducible first|refine mv ?_|refine m12 rfl ?_|refine TD.nil ?_)|((with_reducible first|apply TD.ia|apply TD.ia|apply TD.ld|apply TD.mv);(repeat (focus (show _ = _;first|exact k1 rfl|exact k2 rfl|(simp only [zz,y48,e_ii,Nat.reduceAdd,Nat.reduceMul,Nat.reduceLeDiff,Nat.reduceEqDiff,tindexAddr,Nat.zero_add,z5,Int.reduceToNat,Int.reduceLE,Int.reduceLT,Int.cast_ofNat_Int,tload,rowOf,partT,List.getElem?_map,h7,h8,h9m,h9l,h9a]<;>exact rfl)|exact rfl)));(with_reducible refine TD.here ?_))|((with_reducible apply TX.drawn);(focus decide +kernel);(focus (simp only [zl]<;>exact rfl));(focus exact rfl);(try dsimp only))|fail)
          obtain ⟨⟨v16,v17⟩,h10,hr⟩:=bs hr
          try dsimp only at hr
          have h10m:=tidx_map (f:=e_ii) h10
          have h10l:=getI_lt h10
          try simp only [List.length_set] at h10l
          have h10a:=getI_at h10
          repeat (first|(with_reducible first|refine mv ?_|refine m12 rfl ?_|refine TD.nil ?_)|((with_reducible first|apply TD.ia|apply TD.ia|apply TD.ld|apply TD.bin);(repeat (focus (show _ = _;first|exact k1 rfl|exact k2 rfl|(simp only [zz,y48,e_ii,Nat.reduceAdd,Nat.reduceMul,Nat.reduceLeDiff,Nat.reduceEqDiff,tindexAddr,Nat.zero_add,z5,Int.reduceToNat,Int.reduceLE,Int.reduceLT,Int.cast_ofNat_Int,tload,rowOf,partT,List.getElem?_map,h7,h8,h9m,h9l,h9a,h10m,h10l,h10a]<;>exact rfl)|exact rfl)));(with_reducible refine TD.here ?_))|((with_reducible apply TX.drawn);(focus decide +kernel);(focus (simp only [zl]<;>exact rfl));(focus exact rfl);(try dsimp only))|fail)
          have T:=an h9m T
          have T:=an h9l T
          have T:=an h9a T
          have T:=an h10m T
          have T:=an h10l T
          have T:=an h10a T
          apply TD.sr e_ii v5 (v14,v15) ((IntKind.i64.wrap (v14 + v16)),v15) h9a (wn T) rfl rfl rfl rfl rfl ok3 (by rw [cs3];rfl) rfl rfl rfl rfl rfl
          repeat exact sd T
          refine wa_ T (g:=?_)
          obtain ⟨⟨v18,v19⟩,h11,hr⟩:=bs hr
          try dsimp only at hr
          have h11m:=tidx_map (f:=e_ii) h11
          have h11l:=getI_lt h11
          try simp only [List.length_set] at h11l
          have h11a:=getI_at h11
          repeat (first|(with_reducible first|refine mv ?_|refine m12 rfl ?_|refine TD.nil ?_)|((with_reducible first|apply TD.ia|apply TD.ia|apply TD.ld|apply TD.mv|apply TD.bin);(repeat (focus (show _ = _;first|exact k1 rfl|exact k2 rfl|(simp only [zz,y48,e_ii,Nat.reduceAdd,Nat.reduceMul,Nat.reduceLeDiff,Nat.reduceEqDiff,tindexAddr,Nat.zero_add,z5,Int.reduceToNat,Int.reduceLE,Int.reduceLT,Int.cast_ofNat_Int,tload,rowOf,partT,List.getElem?_map,h7,h8,h9m,h9l,h9a,h10m,h10l,h10a,h11m,h11l,h11a]<;>exact rfl)|exact rfl)));(with_reducible refine TD.here ?_))|((with_reducible apply TX.drawn);(focus decide +kernel);(focus (simp only [zl]<;>exact rfl));(focus exact rfl);(try dsimp only))|fail)
          have T:=an h11m T
          have T:=an h11l T
          have T:=an h11a T
          apply TD.sr e_ii (v5.set ((v6.tmod v2)).toNat ((IntKind.i64.wrap (v14 + v16)),v15)) (v18,v19) (v18,(IntKind.i64.wrap (v19 + v17))) h11a (wn T) rfl rfl rfl rfl rfl ok3 (by rw [cs3];rfl) rfl rfl rfl rfl rfl
          repeat exact sd T
          refine wa_ T (g:=?_)
          cases hr
          refine ⟨rfl,?_⟩
          exact wk_ T [some 0] rfl (.rows .nil rfl rfl)
      · have T:=an h7 T
        refine wa_ T (g:=?_)
        cases hr
        refine ⟨rfl,?_⟩
        exact wk_ T [some 0] rfl (.rows .nil rfl rfl)
    · intro e h;cases h
    · try dsimp only
      refine wa_ T (g:=?_)
      cases hr
      refine ⟨.inr rfl,_,(ry T),?_⟩
      exact wr [some 0] rfl (.rows .nil rfl rfl)
    · try dsimp only
      exact wr [some 0] rfl (.rows .nil rfl rfl)
  rfl

end Go.Rex

namespace Go.Rex
open Go.Proofs
open Go Go.Rex Go.RowKit
set_option maxRecDepth 100000
set_option maxHeartbeats 200000
theorem base_Size_spec {v1 : Int} {v2 : Int} (hr : base_Size v1 = some (v2)) : Spec (lim Try.prog) 64 [.v (.int .i64 v1)] ⟨[.v (.int .i64 v2)],[]⟩:=by
  unfold base_Size at hr
  have T:=trivial
  apply Spec.fn Try.func64 rfl
  focus (simp [Try.f64]<;>exact rfl)
  focus
    refine wa_ T (g:=?_)
    apply TO.pop1 (wn T) (pop_neg rfl)
    repeat exact sd T
    refine wa_ T (g:=?_)
    apply TO.pop1 (wn T) (pop_max rfl rfl)
    repeat exact sd T
    refine wa_ T (g:=?_)
    cases hr
    refine ⟨.inr rfl,_,(ry T),?_⟩
    exact wr [] rfl .nil
  rfl

end Go.Rex

namespace Go.Rex
open Go.Proofs
open Go Go.Rex Go.RowKit
set_option maxRecDepth 100000
set_option maxHeartbeats 1000000
def y49:=an @ag3 <| an @ar47 <| an @by49 <| an @cs3 <| an @cs47 <| an @cs49 <| an @ni31 <| an @ok3 <| an @ok47 <| an @so31 <| an @so46 <| an @so47 <| an @un3 <| an @un51 <| an @zc49 <| @wi64_0a1
theorem ref04_numbers_spec {v1 : (List (Int × Int))} {v2 : (List (Nat × Nat))} {v3 : Bool} (hr : ref04_numbers v1 = some (v2,v3)) : Spec (lim Try.prog) 93 [.list 2 (v1.map e_ii)] ⟨[.tuple [.lsl 0 0 v2.length,.v (.bool v3)]],[.rows 1 (v2.map e_c)]⟩:=by
  unfold ref04_numbers at hr
  have T:=an y49 <| an @e_c.eq_1 <| @e_ii.eq_1
  apply Spec.fn Try.func93 rfl
  focus (simp [Try.f93]<;>exact rfl)
  focus
    refine wa_ T (g:=?_)
    apply TX.vt (α:=(Nat × Nat)) e_c 4 1 rfl
    repeat exact sd T
    with_reducible apply TX.here
    refine wa_ T (g:=?_)
    obtain ⟨v17,h15,hr⟩:=bs hr
    refine TX.loopE (step:=ref04_numbers_l1 v1) (x:=(([] : List (Nat × Nat)),0)) h15 (fun (v4,v5)=>⟨.list 2 (v1.map e_ii) :: .junk :: .junk :: .junk :: .lsl 0 0 v4.length :: .v (.int .i64 v5) :: .junk :: .junk :: .junk :: .junk :: .junk :: .junk :: .junk :: .junk :: .junk :: .junk :: .junk :: .junk :: .junk :: .junk :: .junk :: .junk :: .junk :: .junk :: .junk :: .junk :: .junk :: .junk :: .junk :: .junk :: .junk :: .junk :: .junk :: .junk :: .junk :: .junk :: .junk :: .junk :: .junk :: .junk :: .junk :: .junk :: .junk :: .junk :: .junk :: [],[.rows 1 (v4.map e_c)]⟩) (fun e=>match e with|(.inl _)=>(.ret,⟨.junk :: .junk :: .v (.slice none 0 0) :: .v (.bool false) :: .junk :: .junk :: .junk :: .junk :: .junk :: .junk :: .junk :: .junk :: .junk :: .junk :: .junk :: .junk :: .junk :: .junk :: .junk :: .junk :: .junk :: .junk :: .junk :: .junk :: .junk :: .junk :: .junk :: .junk :: .junk :: .junk :: .junk :: .junk :: .junk :: .junk :: .junk :: .junk :: .junk :: .junk :: .junk :: .junk :: .junk :: .junk :: .junk :: .junk :: .junk :: [],[]⟩)|(.inr v11)=>(.exit 0,⟨.junk :: .junk :: .junk :: .junk :: .lsl 0 0 v11.length :: .junk :: .junk :: .junk :: .junk :: .junk :: .junk :: .junk :: .junk :: .junk :: .junk :: .junk :: .junk :: .junk :: .junk :: .junk :: .junk :: .junk :: .junk :: .junk :: .junk :: .junk :: .junk :: .junk :: .junk :: .junk :: .junk :: .junk :: .junk :: .junk :: .junk :: .junk :: .junk :: .junk :: .junk :: .junk :: .junk :: .junk :: .junk :: .junk :: .junk :: [],[.rows 1 (v11.map e_c)]⟩)) ?_ ?_ ?_ ?_
    · rintro ⟨v4,v5⟩ v0 hr
      dsimp only [ref04_numbers_l1] at hr
      try dsimp only
      refine wc_ T (g:=?_)
      rcases ifs hr with ⟨h8,hr⟩|⟨h8,hr⟩
      · have T:=an h8 T
        refine wa_ T (g:=?_)
        obtain ⟨⟨v12,v13⟩,h9,hr⟩:=bs hr
        try dsimp only at hr
        have h9m:=tidx_map (f:=e_ii) h9
        have h9l:=getI_lt h9
        try simp only [List.length_set] at h9l
        have h9a:=getI_at h9
        repeat (first|(with_reducible first|refine mv ?_|refine m12 rfl ?_|refine TO.nil ?_)|((with_reducible first|apply TO.ia|apply TO.ia|apply TO.ld);(repeat (focus (show _ = _;first|exact k1 rfl|exact k2 rfl|(simp only [zz,y49,e_c,e_ii,Nat.reduceAdd,Nat.reduceMul,Nat.reduceLeDiff,Nat.reduceEqDiff,tindexAddr,Nat.zero_add,z5,Int.reduceToNat,Int.reduceLE,Int.reduceLT,Int.cast_ofNat_Int,tload,rowOf,partT,List.getElem?_map,h8,h9m,h9l,h9a]<;>exact rfl)|exact rfl)));(with_reducible apply TO.here))|((with_reducible apply TX.region);(focus (simp only [zl]<;>exact rfl));(focus rfl);(try dsimp only))|fail)
        obtain ⟨v14,h10,hr⟩:=bs hr
        have T:=an h9m T
        have T:=an h9l T
        have T:=an h9a T
        apply TO.cal (wn T) rfl goFn64 (base_Size_spec h10) rfl rfl rfl
        repeat exact sd T
        refine wa_ T (g:=?_)
        rcases ifs hr with ⟨h11,hr⟩|⟨h11,hr⟩
        · have T:=an h11 T
          refine wa_ T (g:=?_)
          cases hr
          refine ⟨rfl,?_⟩
          exact wk_ T [] rfl .nil
        · repeat (first|(with_reducible first|refine mv ?_|refine m12 rfl ?_|refine TO.nil ?_)|((with_reducible first|apply TO.mv|apply TO.ia|apply TO.ia|apply TO.ld);(repeat (focus (show _ = _;first|exact k1 rfl|exact k2 rfl|(simp only [zz,y49,e_c,e_ii,Nat.reduceAdd,Nat.reduceMul,Nat.reduceLeDiff,Nat.reduceEqDiff,tindexAddr,Nat.zero_add,z5,Int.reduceToNat,Int.reduceLE,Int.reduceLT,Int.cast_ofNat_Int,tload,rowOf,partT,List.getElem?_map,h8,h9m,h9l,h9a,h11]<;>exact rfl)|exact rfl)));(with_reducible apply TO.here))|((with_reducible apply TX.region);(focus (simp only [zl]<;>exact rfl));(focus rfl);(try dsimp only))|fail)
          obtain ⟨v15,h12,hr⟩:=bs hr
          have T:=an h11 T
          apply TO.cal (wn T) rfl goFn64 (base_Size_spec h12) rfl rfl rfl
          repeat exact sd T
          refine wa_ T (g:=?_)
          rcases ifs hr with ⟨h13,hr⟩|⟨h13,hr⟩
          · have T:=an h13 T
            refine wa_ T (g:=?_)
            cases hr
            refine ⟨rfl,?_⟩
            exact wk_ T [] rfl .nil
          · repeat (first|(with_reducible first|refine mv ?_|refine m12 rfl ?_|refine TD.nil ?_)|((with_reducible first|apply TD.mv|apply TD.ia|apply TD.ia|apply TD.ld );(repeat (focus (show _ = _;first|exact k1 rfl|exact k2 rfl|(simp only [zz,y49,e_c,e_ii,Nat.reduceAdd,Nat.reduceMul,Nat.reduceLeDiff,Nat.reduceEqDiff,tindexAddr,Nat.zero_add,z5,Int.reduceToNat,Int.reduceLE,Int.reduceLT,Int.cast_ofNat_Int,tload,rowOf,partT,List.getElem?_map,h8,h9m,h9l,h9a,h11,h13]<;>exact rfl)|exact rfl)));(with_reducible refine TD.here ?_))|((with_reducible apply TX.drawn);(focus decide +kernel);(focus (simp only [zl]<;>exact rfl));(focus exact rfl);(try dsimp only))|((with_reducible apply TX.cond_true);(focus rfl);(focus (first|rfl|(simp only [z1,zn,h8,h9m,h9l,h9a,h11,h13];done))))|((with_reducible apply TX.cond_false);(focus rfl);(focus (first|rfl|(simp only [z1,zn,h8,h9m,h9l,h9a,h11,h13];done))))|fail)
            have T:=an h13 T
            apply TD.pop1 (wn T) (cvt_int_float un3 un51 rfl)
            repeat exact sd T
            repeat (first|(with_reducible first|refine mv ?_|refine m12 rfl ?_|refine TD.nil ?_)|((with_reducible first|apply TD.mv|apply TD.ia|apply TD.ia|apply TD.ld );(repeat (focus (show _ = _;first|exact k1 rfl|exact k2 rfl|(simp only [zz,y49,e_c,e_ii,Nat.reduceAdd,Nat.reduceMul,Nat.reduceLeDiff,Nat.reduceEqDiff,tindexAddr,Nat.zero_add,z5,Int.reduceToNat,Int.reduceLE,Int.reduceLT,Int.cast_ofNat_Int,tload,rowOf,partT,List.getElem?_map,h8,h9m,h9l,h9a,h11,h13]<;>exact rfl)|exact rfl)));(with_reducible refine TD.here ?_))|((with_reducible apply TX.drawn);(focus decide +kernel);(focus (simp only [zl]<;>exact rfl));(focus exact rfl);(try dsimp only))|fail)
            apply TD.pop1 (wn T) (cvt_int_float un3 un51 rfl)
            repeat exact sd T
            refine wa_ T (g:=?_)
            apply TD.pop1 (wn T) (pop_complex rfl rfl)
            repeat exact sd T
            refine wa_ T (g:=?_)
            apply TD.bm e_c ([((FloatKind.f32.nearest v12),(FloatKind.f32.nearest v13))] : List (Nat × Nat)) (wn T) rfl (by simp only [zz,y49,e_c,e_ii,Nat.reduceAdd,Nat.reduceMul,Nat.reduceLeDiff,Nat.reduceEqDiff,tslice,tparts,h8,h9m,h9l,h9a,h11,h13];exact rfl) rfl
            repeat exact sd T
            refine wa_ T (g:=?_)
            obtain ⟨v16,h14,hr⟩:=bs hr
            apply TD.ap (f:=e_c) (xs:=v4) (ys:=([((FloatKind.f32.nearest v12),(FloatKind.f32.nearest v13))] : List (Nat × Nat))) (wn T) rfl rfl (by first|rfl|simp only [List.length_set]) rfl rfl so31 ni31 zc49 rfl (by rw [by49];exact h14) (fun _=>⟨rfl,rfl,rfl⟩) rfl
            repeat exact sd T
            refine wa_ T (g:=?_)
            cases hr
            refine ⟨rfl,?_⟩
            exact wk_ T [some 0] rfl (.rows .nil rfl rfl)
      · have T:=an h8 T
        refine wa_ T (g:=?_)
        cases hr
        refine ⟨rfl,?_⟩
        exact wk_ T [some 0] rfl (.rows .nil rfl rfl)
    · intro e h;rcases e with _|e<;>cases h
    · try dsimp only
      rcases v17 with _|v18
      · try dsimp only at hr
        try dsimp only
        refine wa_ T (g:=?_)
        cases hr
        refine ⟨.inr rfl,_,(ry T),?_⟩
        exact wr [none] rfl (.virt .nil)
      · try dsimp only at hr
        try dsimp only
        refine wa_ T (g:=?_)
        cases hr
        refine ⟨.inr rfl,_,(ry T),?_⟩
        exact wr [some 0] rfl (.rows .nil rfl rfl)
    · try dsimp only
      exact wr [some 0] rfl (.rows .nil rfl rfl)
  rfl

end Go.Rex

namespace Go.Rex
open Go.Proofs
open Go Go.Rex Go.RowKit
set_option maxRecDepth 100000
set_option maxHeartbeats 200000
theorem ref04_told_spec {v1 : (List (Int × Int))} {v2 : (List (Nat × Nat))} {v3 : Int} (hr : ref04_told v1 = some (v2,v3)) : Spec (lim Try.prog) 47 [.list 2 (v1.map e_ii)] ⟨[.tuple [.lsl 0 0 v2.length,.v (.int .i64 v3)]],[.rows 1 (v2.map e_c)]⟩:=by
  unfold ref04_told at hr
  have T:=an @e_c.eq_1 <| @e_ii.eq_1
  apply Spec.fn Try.func47 rfl
  focus (simp [Try.f47]<;>exact rfl)
  focus
    refine wa_ T (g:=?_)
    obtain ⟨⟨v4,v5⟩,h1,hr⟩:=bs hr
    try dsimp only at hr
    apply TO.cal (wn T) rfl goFn93 (ref04_numbers_spec h1) rfl rfl rfl
    repeat exact sd T
    refine wa_ T (g:=?_)
    apply TO.pop1 (wn T) (pop_not rfl)
    repeat exact sd T
    refine wa_ T (g:=?_)
    rcases ifs hr with ⟨h2,hr⟩|⟨h2,hr⟩
    · have T:=an h2 T
      refine wa_ T (g:=?_)
      cases hr
      refine ⟨.inr rfl,_,(ry T),?_⟩
      exact wk_ T [some 0] rfl (.rows .nil rfl rfl)
    · have T:=an h2 T
      refine wa_ T (g:=?_)
      cases hr
      refine ⟨.inr rfl,_,(ry T),?_⟩
      exact wk_ T [none] rfl (.virt .nil)
  rfl

end Go.Rex

namespace Go.Rex
open Go.Proofs
open Go Go.Rex Go.RowKit
set_option maxRecDepth 100000
set_option maxHeartbeats 200000
theorem ref04_Folded_spec {v1 : (List (Nat × Nat))} {v2 : Int} {v3 : (List (Nat × Nat))} {v4 : Int} (hr : ref04_Folded v1 v2 = some (v3,v4)) : Spec (lim Try.prog) 13 [.list 1 (v1.map e_c),.v (.int .i64 v2)] ⟨[.tuple [.lsl 0 0 v3.length,.v (.int .i64 v4)]],[.rows 1 (v3.map e_c)]⟩:=by
  unfold ref04_Folded at hr
  have T:=@e_c.eq_1
  apply Spec.fn Try.func13 rfl
  focus (simp [Try.f13]<;>exact rfl)
  focus
    refine wa_ T (g:=?_)
    obtain ⟨v5,h1,hr⟩:=bs hr
    apply TO.cal (wn T) rfl goFn46 (ref04_ListErr_spec h1) rfl rfl rfl
    repeat exact sd T
    refine wa_ T (g:=?_)
    rcases ifs hr with ⟨h2,hr⟩|⟨h2,hr⟩
    · have T:=an h2 T
      refine wa_ T (g:=?_)
      cases hr
      refine ⟨.inr rfl,_,(ry T),?_⟩
      exact wk_ T [none] rfl (.virt .nil)
    · have T:=an h2 T
      refine wa_ T (g:=?_)
      obtain ⟨v6,h3,hr⟩:=bs hr
      apply TO.cal (wn T) rfl goFn20 (base_Within_spec h3) rfl rfl rfl
      repeat exact sd T
      refine wa_ T (g:=?_)
      apply TO.pop1 (wn T) (pop_not rfl)
      repeat exact sd T
      refine wa_ T (g:=?_)
      rcases ifs hr with ⟨h4,hr⟩|⟨h4,hr⟩
      · have T:=an h4 T
        refine wa_ T (g:=?_)
        obtain ⟨v7,h5,hr⟩:=bs hr
        apply TO.cal (wn T) rfl goFn49 (ref04_Pairs_spec h5) rfl rfl rfl
        repeat exact sd T
        refine wa_ T (g:=?_)
        obtain ⟨v8,h6,hr⟩:=bs hr
        apply TO.lok (wn T) rfl goFn48 (ref04_folded_spec h6) (vw T) rfl rfl (by simp [clTB,cl,e_ff,e_c,e_ii,e_i])
        repeat exact sd T
        refine wa_ T (g:=?_)
        obtain ⟨⟨v9,v10⟩,h7,hr⟩:=bs hr
        try dsimp only at hr
        apply TO.lok (wn T) rfl goFn47 (ref04_told_spec h7) (vw T) rfl rfl (by simp [clTB,cl,e_ff,e_c,e_ii,e_i])
        repeat exact sd T
        refine wa_ T (g:=?_)
        cases hr
        refine ⟨.inr rfl,_,(ry T),?_⟩
        exact wk_ T [some 2] rfl (.rows .nil rfl rfl)
      · have T:=an h4 T
        refine wa_ T (g:=?_)
        cases hr
        refine ⟨.inr rfl,_,(ry T),?_⟩
        exact wk_ T [none] rfl (.virt .nil)
  rfl

end Go.Rex

namespace Go.Rex
open Go.Proofs
open Go Go.Rex Go.RowKit
set_option maxRecDepth 100000
set_option maxHeartbeats 1000000
def y50:=an @ag24 <| an @ag3 <| an @cs3 <| an @fd26_0 <| an @fd26_1 <| an @ok3 <| an @so24 <| @wi64_0a1
theorem ref04_CheckRegister_spec {v1 : Int} {v2 : (List Int)} {v3 : Int} (hr : ref04_CheckRegister v1 v2 = some (v3)) : Spec (lim Try.prog) 94 [.agg [.v (.int .i64 v1),.list 1 (v2.map e_i)]] ⟨[.v (.int .i64 v3)],[]⟩:=by
  unfold ref04_CheckRegister at hr
  have T:=an y50 <| @e_i.eq_1
  apply Spec.fn Try.func94 rfl
  focus (simp [Try.f94]<;>exact rfl)
  focus
    refine wB T (g:=?_)
    obtain ⟨v4,h1,hr⟩:=bs hr
    apply TO.cal (wn T) rfl goFn20 (base_Within_spec h1) rfl rfl rfl
    repeat exact sd T
    refine wa_ T (g:=?_)
    apply TO.pop1 (wn T) (pop_not rfl)
    repeat exact sd T
    refine wa_ T (g:=?_)
    rcases ifs hr with ⟨h2,hr⟩|⟨h2,hr⟩
    · have T:=an h2 T
      refine wC T (g:=?_)
      rcases ifs hr with ⟨h3,hr⟩|⟨h3,hr⟩
      · have T:=an h3 T
        refine wa_ T (g:=?_)
        cases hr
        refine ⟨.inr rfl,_,(ry T),?_⟩
        exact wk_ T [] rfl .nil
      · have T:=an h3 T
        refine wa_ T (g:=?_)
        obtain ⟨v13,h18,hr⟩:=bs hr
        refine TX.loopE (step:=ref04_CheckRegister_l1 v1 v2) (x:=0) h18 (fun v5=>⟨.junk :: .fptr true [.v (.int .i64 v1),.list 1 (v2.map e_i)] 0 :: .junk :: .v (.int .i64 v5) :: .junk :: .junk :: .junk :: .junk :: .junk :: .junk :: .junk :: .junk :: .junk :: .junk :: .junk :: .junk :: .junk :: .junk :: .junk :: .junk :: .junk :: .junk :: .junk :: .junk :: .junk :: .junk :: .junk :: .junk :: .junk :: .junk :: .junk :: .junk :: .junk :: .junk :: .junk :: .junk :: .junk :: .junk :: .junk :: .junk :: .junk :: .junk :: .junk :: .junk :: .junk :: .junk :: .junk :: .junk :: .junk :: .junk :: .junk :: .junk :: .junk :: .junk :: .junk :: [],[]⟩) (fun e=>match e with|(.inl v9)=>(.ret,⟨.junk :: .junk :: .v (.int .i64 v9) :: .junk :: .junk :: .junk :: .junk :: .junk :: .junk :: .junk :: .junk :: .junk :: .junk :: .junk :: .junk :: .junk :: .junk :: .junk :: .junk :: .junk :: .junk :: .junk :: .junk :: .junk :: .junk :: .junk :: .junk :: .junk :: .junk :: .junk :: .junk :: .junk :: .junk :: .junk :: .junk :: .junk :: .junk :: .junk :: .junk :: .junk :: .junk :: .junk :: .junk :: .junk :: .junk :: .junk :: .junk :: .junk :: .junk :: .junk :: .junk :: .junk :: .junk :: .junk :: .junk :: [],[]⟩)|(.inr _)=>(.exit 0,⟨.junk :: .fptr true [.v (.int .i64 v1),.list 1 (v2.map e_i)] 0 :: .junk :: .junk :: .junk :: .junk :: .junk :: .junk :: .junk :: .junk :: .junk :: .junk :: .junk :: .junk :: .junk :: .junk :: .junk :: .junk :: .junk :: .junk :: .junk :: .junk :: .junk :: .junk :: .junk :: .junk :: .junk :: .junk :: .junk :: .junk :: .junk :: .junk :: .junk :: .junk :: .junk :: .junk :: .junk :: .junk :: .junk :: .junk :: .junk :: .junk :: .junk :: .junk :: .junk :: .junk :: .junk :: .junk :: .junk :: .junk :: .junk :: .junk :: .junk :: .junk :: .junk :: [],[]⟩)) ?_ ?_ ?_ ?_
        · rintro v5 v0 hr
          dsimp only [ref04_CheckRegister_l1] at hr
          try dsimp only
          refine wC T (g:=?_)
          rcases ifs hr with ⟨h11,hr⟩|⟨h11,hr⟩
          · have T:=an h11 T
            refine wA T (g:=?_)
            obtain ⟨v10,h12,hr⟩:=bs hr
            have T:=an (gx e_i h12) T
            refine wA T (g:=?_)
            obtain ⟨v11,h13,hr⟩:=bs hr
            apply TD.cal (wn T) rfl goFn20 (base_Within_spec h13) rfl rfl rfl
            repeat exact sd T
            refine wa_ T (g:=?_)
            apply TD.pop1 (wn T) (pop_not rfl)
            repeat exact sd T
            refine wa_ T (g:=?_)
            rcases ifs hr with ⟨h14,hr⟩|⟨h14,hr⟩
            · have T:=an h14 T
              refine wa_ T (g:=?_)
              rcases ifs hr with ⟨h15,hr⟩|⟨h15,hr⟩
              · have T:=an h15 T
                refine wA T (g:=?_)
                obtain ⟨v12,h16,hr⟩:=bs hr
                have T:=an (gx e_i h16) T
                refine wA T (g:=?_)
                rcases ifs hr with ⟨h17,hr⟩|⟨h17,hr⟩
                · have T:=an h17 T
                  refine wa_ T (g:=?_)
                  cases hr
                  refine ⟨rfl,?_⟩
                  exact wk_ T [] rfl .nil
                · have T:=an h17 T
                  refine wa_ T (g:=?_)
                  cases hr
                  refine ⟨rfl,?_⟩
                  exact wk_ T [] rfl .nil
              · have T:=an h15 T
                refine wa_ T (g:=?_)
                cases hr
                refine ⟨rfl,?_⟩
                exact wk_ T [] rfl .nil
            · have T:=an h14 T
              refine wa_ T (g:=?_)
              cases hr
              refine ⟨rfl,?_⟩
              exact wk_ T [] rfl .nil
          · have T:=an h11 T
            refine wa_ T (g:=?_)
            cases hr
            refine ⟨rfl,?_⟩
            exact wk_ T [] rfl .nil
        · intro e h;rcases e with _|e<;>cases h
        · try dsimp only
          rcases v13 with v14|_
          · try dsimp only at hr
            try dsimp only
            refine wa_ T (g:=?_)
            cases hr
            refine ⟨.inr rfl,_,(ry T),?_⟩
            exact wk_ T [] rfl .nil
          · try dsimp only at hr
            try dsimp only
            refine wC T (g:=?_)
            obtain ⟨v15,h19,hr⟩:=bs hr
            have T:=an (gx e_i h19) T
            refine wA T (g:=?_)
            rcases ifs hr with ⟨h20,hr⟩|⟨h20,hr⟩
            · have T:=an h20 T
              refine wa_ T (g:=?_)
              cases hr
              refine ⟨.inr rfl,_,(ry T),?_⟩
              exact wk_ T [] rfl .nil
            · have T:=an h20 T
              refine wa_ T (g:=?_)
              cases hr
              refine ⟨.inr rfl,_,(ry T),?_⟩
              exact wk_ T [] rfl .nil
        · try dsimp only
          exact wk_ T [] rfl .nil
    · have T:=an h2 T
      refine wa_ T (g:=?_)
      cases hr
      refine ⟨.inr rfl,_,(ry T),?_⟩
      exact wk_ T [] rfl .nil
  rfl

end Go.Rex

namespace Go.Rex
open Go.Proofs
open Go Go.Rex Go.RowKit
set_option maxRecDepth 100000
set_option maxHeartbeats 200000
def y51:=an @ag3 <| an @fd26_0 <| an @wi64_0a1 <| @wi64_2m1
theorem ref04_Most_spec {v1 : Int} {v2 : (List Int)} {v3 : Int} (hr : ref04_Most v1 v2 = some (v3)) : Spec (lim Try.prog) 51 [.agg [.v (.int .i64 v1),.list 1 (v2.map e_i)]] ⟨[.v (.int .i64 v3)],[]⟩:=by
  unfold ref04_Most at hr
  have T:=an y51 <| @e_i.eq_1
  apply Spec.fn Try.func51 rfl
  focus (simp [Try.f51]<;>exact rfl)
  focus
    refine wb_ T (g:=?_)
    obtain ⟨v7,h3,hr⟩:=bs hr
    refine TX.loopE (step:=ref04_Most_l1 v1) (x:=(1,0)) h3 (fun (v4,v5)=>⟨.junk :: .fptr true [.v (.int .i64 v1),.list 1 (v2.map e_i)] 0 :: .junk :: .v (.int .i64 v4) :: .v (.int .i64 v5) :: .junk :: .junk :: .junk :: .junk :: .junk :: .junk :: .junk :: .junk :: .junk :: .junk :: [],[]⟩) (fun v6=>(.exit 0,⟨.junk :: .junk :: .junk :: .v (.int .i64 v6) :: .junk :: .junk :: .junk :: .junk :: .junk :: .junk :: .junk :: .junk :: .junk :: .junk :: .junk :: [],[]⟩)) ?_ ?_ ?_ ?_
    · rintro ⟨v4,v5⟩ v0 hr
      dsimp only [ref04_Most_l1] at hr
      try dsimp only
      refine wA T (g:=?_)
      rcases ifs hr with ⟨h2,hr⟩|⟨h2,hr⟩
      · have T:=an h2 T
        refine wa_ T (g:=?_)
        cases hr
        refine ⟨rfl,?_⟩
        exact wk_ T [] rfl .nil
      · have T:=an h2 T
        refine wa_ T (g:=?_)
        cases hr
        refine ⟨rfl,?_⟩
        exact wk_ T [] rfl .nil
    · intro e h;cases h
    · try dsimp only
      refine wa_ T (g:=?_)
      cases hr
      refine ⟨.inr rfl,_,(ry T),?_⟩
      exact wr [] rfl .nil
    · try dsimp only
      exact wr [] rfl .nil
  rfl

end Go.Rex

namespace Go.Rex
open Go.Proofs
open Go Go.Rex Go.RowKit
set_option maxRecDepth 100000
set_option maxHeartbeats 200000
def y52:=an @ag26 <| an @cs26 <| @ok26
theorem ref04_StartErr_spec {v1 : Int} {v2 : (List Int)} {v3 : Int} {v4 : Int} (hr : ref04_StartErr v1 v2 v3 = some (v4)) : Spec (lim Try.prog) 50 [.agg [.v (.int .i64 v1),.list 1 (v2.map e_i)],.v (.int .i64 v3)] ⟨[.v (.int .i64 v4)],[]⟩:=by
  unfold ref04_StartErr at hr
  have T:=an y52 <| @e_i.eq_1
  apply Spec.fn Try.func50 rfl
  focus (simp [Try.f50]<;>exact rfl)
  focus
    refine wB T (g:=?_)
    obtain ⟨v5,h1,hr⟩:=bs hr
    apply TO.cal (wn T) rfl goFn94 (ref04_CheckRegister_spec h1) rfl rfl rfl
    repeat exact sd T
    refine wa_ T (g:=?_)
    rcases ifs hr with ⟨h2,hr⟩|⟨h2,hr⟩
    · have T:=an h2 T
      refine wa_ T (g:=?_)
      cases hr
      refine ⟨.inr rfl,_,(ry T),?_⟩
      exact wk_ T [] rfl .nil
    · have T:=an h2 T
      refine wA T (g:=?_)
      obtain ⟨v6,h3,hr⟩:=bs hr
      apply TO.cal (wn T) rfl goFn51 (ref04_Most_spec h3) rfl rfl rfl
      repeat exact sd T
      refine wa_ T (g:=?_)
      obtain ⟨v7,h4,hr⟩:=bs hr
      apply TO.cal (wn T) rfl goFn20 (base_Within_spec h4) rfl rfl rfl
      repeat exact sd T
      refine wa_ T (g:=?_)
      apply TO.pop1 (wn T) (pop_not rfl)
      repeat exact sd T
      refine wa_ T (g:=?_)
      rcases ifs hr with ⟨h5,hr⟩|⟨h5,hr⟩
      · have T:=an h5 T
        refine wa_ T (g:=?_)
        cases hr
        refine ⟨.inr rfl,_,(ry T),?_⟩
        exact wk_ T [] rfl .nil
      · have T:=an h5 T
        refine wa_ T (g:=?_)
        cases hr
        refine ⟨.inr rfl,_,(ry T),?_⟩
        exact wk_ T [] rfl .nil
  rfl

end Go.Rex

namespace Go.Rex
open Go.Proofs
open Go Go.Rex Go.RowKit
set_option maxRecDepth 100000
set_option maxHeartbeats 1000000
def y53:=an @ag24 <| an @ag3 <| an @by3 <| an @cs3 <| an @fd26_0 <| an @fd26_1 <| an @ni24 <| an @ok3 <| an @so24 <| an @zc3 <| @wi64_0a1
theorem ref04_Bits_spec {v1 : Int} {v2 : (List Int)} {v3 : Int} {v4 : Int} {v5 : (List Int)} (hr : ref04_Bits v1 v2 v3 v4 = some (v5)) : Spec (lim Try.prog) 96 [.agg [.v (.int .i64 v1),.list 1 (v2.map e_i)],.v (.int .i64 v3),.v (.int .i64 v4)] ⟨[.lsl 0 0 v5.length],[.rows 1 (v5.map e_i)]⟩:=by
  unfold ref04_Bits at hr
  have T:=an y53 <| @e_i.eq_1
  apply Spec.fn Try.func96 rfl
  focus (simp [Try.f96]<;>exact rfl)
  focus
    refine wb_ T (g:=?_)
    apply TX.vt (α:=Int) e_i 7 1 rfl
    repeat exact sd T
    with_reducible apply TX.here
    refine wa_ T (g:=?_)
    obtain ⟨v30,h23,hr⟩:=bs hr
    refine TX.loopE (step:=ref04_Bits_l1 v1 v2 v4) (x:=(v3,([] : List Int),0)) h23 (fun (v6,v7,v8)=>⟨.junk :: .v (.int .i64 v6) :: .v (.int .i64 v4) :: .fptr true [.v (.int .i64 v1),.list 1 (v2.map e_i)] 0 :: .junk :: .junk :: .junk :: .lsl 0 0 v7.length :: .v (.int .i64 v8) :: .junk :: .junk :: .junk :: .junk :: .junk :: .junk :: .junk :: .junk :: .junk :: .junk :: .junk :: .junk :: .junk :: .junk :: .junk :: .junk :: .junk :: .junk :: .junk :: .junk :: .junk :: .junk :: .junk :: .junk :: .junk :: .junk :: .junk :: .junk :: .junk :: .junk :: .junk :: .junk :: .junk :: .junk :: .junk :: .junk :: .junk :: .junk :: .junk :: .junk :: .junk :: .junk :: .junk :: [],[.rows 1 (v7.map e_i)]⟩) (fun v19=>(.exit 0,⟨.junk :: .junk :: .junk :: .junk :: .junk :: .junk :: .junk :: .lsl 0 0 v19.length :: .junk :: .junk :: .junk :: .junk :: .junk :: .junk :: .junk :: .junk :: .junk :: .junk :: .junk :: .junk :: .junk :: .junk :: .junk :: .junk :: .junk :: .junk :: .junk :: .junk :: .junk :: .junk :: .junk :: .junk :: .junk :: .junk :: .junk :: .junk :: .junk :: .junk :: .junk :: .junk :: .junk :: .junk :: .junk :: .junk :: .junk :: .junk :: .junk :: .junk :: .junk :: .junk :: .junk :: .junk :: [],[.rows 1 (v19.map e_i)]⟩)) ?_ ?_ ?_ ?_
    · rintro ⟨v6,v7,v8⟩ v0 hr
      dsimp only [ref04_Bits_l1] at hr
      try dsimp only
      refine wa_ T (g:=?_)
      rcases ifs hr with ⟨h12,hr⟩|⟨h12,hr⟩
      · have T:=an h12 T
        refine wA T (g:=?_)
        rcases ifs hr with ⟨h13,hr⟩|⟨h13,hr⟩
        · have T:=an h13 T
          refine wa_ T (g:=?_)
          apply TO.bm e_i ([(v6.tmod 2)] : List Int) (wn T) rfl (by simp only [zz,y53,e_i,Nat.reduceAdd,Nat.reduceMul,Nat.reduceLeDiff,Nat.reduceEqDiff,tslice,tparts,h12,h13];exact rfl) rfl
          repeat exact sd T
          refine wa_ T (g:=?_)
          obtain ⟨v20,h14,hr⟩:=bs hr
          apply TO.ap (f:=e_i) (xs:=v7) (ys:=([(v6.tmod 2)] : List Int)) (wn T) rfl rfl (by first|rfl|simp only [List.length_set]) rfl rfl so24 ni24 zc3 rfl (by rw [by3];exact h14) (fun _=>⟨rfl,rfl,rfl⟩)
          repeat exact sd T
          refine wa_ T (g:=?_)
          cases hr
          refine ⟨rfl,?_⟩
          exact wk_ T [some 0] rfl (.rows .nil rfl rfl)
        · have T:=an h13 T
          refine wa_ T (g:=?_)
          obtain ⟨v28,h21,hr⟩:=bs hr
          refine TX.loopE (step:=ref04_Bits_l2 v2 v7 v8) (x:=(0,0)) h21 (fun (v21,v22)=>⟨.junk :: .v (.int .i64 v6) :: .v (.int .i64 v4) :: .fptr true [.v (.int .i64 v1),.list 1 (v2.map e_i)] 0 :: .junk :: .junk :: .junk :: .lsl 0 0 v7.length :: .v (.int .i64 v8) :: .v (.int .i64 v21) :: .v (.int .i64 v22) :: .junk :: .junk :: .junk :: .junk :: .junk :: .junk :: .junk :: .junk :: .junk :: .junk :: .junk :: .junk :: .junk :: .junk :: .junk :: .junk :: .junk :: .junk :: .junk :: .junk :: .junk :: .junk :: .junk :: .junk :: .junk :: .junk :: .junk :: .junk :: .junk :: .junk :: .junk :: .junk :: .junk :: .junk :: .junk :: .junk :: .junk :: .junk :: .junk :: .junk :: .junk :: [],[.rows 1 (v7.map e_i)]⟩) (fun v25=>(.exit 2,⟨.junk :: .v (.int .i64 v6) :: .v (.int .i64 v4) :: .fptr true [.v (.int .i64 v1),.list 1 (v2.map e_i)] 0 :: .junk :: .junk :: .junk :: .lsl 0 0 v7.length :: .v (.int .i64 v8) :: .v (.int .i64 v25) :: .junk :: .junk :: .junk :: .junk :: .junk :: .junk :: .junk :: .junk :: .junk :: .junk :: .junk :: .junk :: .junk :: .junk :: .junk :: .junk :: .junk :: .junk :: .junk :: .junk :: .junk :: .junk :: .junk :: .junk :: .junk :: .junk :: .junk :: .junk :: .junk :: .junk :: .junk :: .junk :: .junk :: .junk :: .junk :: .junk :: .junk :: .junk :: .junk :: .junk :: .junk :: .junk :: [],[.rows 1 (v7.map e_i)]⟩)) ?_ ?_ ?_ ?_
          · rintro ⟨v21,v22⟩ v0 hr
            dsimp only [ref04_Bits_l2] at hr
            try dsimp only
            refine wC T (g:=?_)
            rcases ifs hr with ⟨h18,hr⟩|⟨h18,hr⟩
            · have T:=an h18 T
              refine wA T (g:=?_)
              obtain ⟨v26,h19,hr⟩:=bs hr
              have T:=an (gx e_i h19) T
              refine wA T (g:=?_)
              obtain ⟨v27,h20,hr⟩:=bs hr
              have T:=an (gx e_i h20) T
              refine wA T (g:=?_)
              cases hr
              refine ⟨rfl,?_⟩
              exact wk_ T [some 0] rfl (.rows .nil rfl rfl)
            · have T:=an h18 T
              refine wa_ T (g:=?_)
              cases hr
              refine ⟨rfl,?_⟩
              exact wk_ T [some 0] rfl (.rows .nil rfl rfl)
          · intro e h;cases h
          · try dsimp only
            refine wa_ T (g:=?_)
            apply TO.bm e_i ([(v28.tmod 2)] : List Int) (wn T) rfl (by simp only [zz,y53,e_i,Nat.reduceAdd,Nat.reduceMul,Nat.reduceLeDiff,Nat.reduceEqDiff,tslice,tparts,h12,h13];exact rfl) rfl
            repeat exact sd T
            refine wa_ T (g:=?_)
            obtain ⟨v29,h22,hr⟩:=bs hr
            apply TO.ap (f:=e_i) (xs:=v7) (ys:=([(v28.tmod 2)] : List Int)) (wn T) rfl rfl (by first|rfl|simp only [List.length_set]) rfl rfl so24 ni24 zc3 rfl (by rw [by3];exact h22) (fun _=>⟨rfl,rfl,rfl⟩)
            repeat exact sd T
            refine wa_ T (g:=?_)
            cases hr
            refine ⟨rfl,?_⟩
            exact wk_ T [some 0] rfl (.rows .nil rfl rfl)
          · try dsimp only
            exact wk_ T [some 0] rfl (.rows .nil rfl rfl)
      · have T:=an h12 T
        refine wa_ T (g:=?_)
        cases hr
        refine ⟨rfl,?_⟩
        exact wk_ T [some 0] rfl (.rows .nil rfl rfl)
    · intro e h;cases h
    · try dsimp only
      refine wa_ T (g:=?_)
      cases hr
      refine ⟨.inr rfl,_,(ry T),?_⟩
      exact wr [some 0] rfl (.rows .nil rfl rfl)
    · try dsimp only
      exact wr [some 0] rfl (.rows .nil rfl rfl)
  rfl

end Go.Rex

namespace Go.Rex
open Go.Proofs
open Go Go.Rex Go.RowKit
set_option maxRecDepth 100000
set_option maxHeartbeats 200000
def y54:=an @ag26 <| an @ag3 <| an @cs26 <| an @cs3 <| an @ok26 <| an @ok3 <| an @so24 <| @wi64_0a1
theorem ref04_Signs_spec {v1 : Int} {v2 : (List Int)} {v3 : Int} {v4 : (List Int)} (hr : ref04_Signs v1 v2 v3 = some (v4)) : Spec (lim Try.prog) 53 [.agg [.v (.int .i64 v1),.list 1 (v2.map e_i)],.v (.int .i64 v3)] ⟨[.lsl 0 0 v4.length],[.rows 1 (v4.map e_i)]⟩:=by
  unfold ref04_Signs at hr
  have T:=an y54 <| @e_i.eq_1
  apply Spec.fn Try.func53 rfl
  focus (simp [Try.f53]<;>exact rfl)
  focus
    refine wB T (g:=?_)
    obtain ⟨v5,h1,hr⟩:=bs hr
    apply TD.cal (wn T) rfl goFn51 (ref04_Most_spec h1) rfl rfl rfl
    repeat exact sd T
    refine wa_ T (g:=?_)
    obtain ⟨v6,h2,hr⟩:=bs hr
    apply TD.cal (wn T) rfl goFn96 (ref04_Bits_spec h2) rfl rfl rfl
    repeat exact sd T
    refine wa_ T (g:=?_)
    obtain ⟨v12,h7,hr⟩:=bs hr
    refine TX.loopE (step:=ref04_Signs_l1) (x:=(v6,0)) h7 (fun (v7,v8)=>⟨.junk :: .junk :: .junk :: .junk :: .junk :: .lsl 0 0 v7.length :: .v (.int .i64 v8) :: .junk :: .junk :: .junk :: .junk :: .junk :: .junk :: .junk :: .junk :: .junk :: .junk :: .junk :: .junk :: .junk :: .junk :: .junk :: .junk :: .junk :: .junk :: .junk :: .junk :: .junk :: [],[.rows 1 (v7.map e_i)]⟩) (fun v10=>(.exit 0,⟨.junk :: .junk :: .junk :: .junk :: .junk :: .lsl 0 0 v10.length :: .junk :: .junk :: .junk :: .junk :: .junk :: .junk :: .junk :: .junk :: .junk :: .junk :: .junk :: .junk :: .junk :: .junk :: .junk :: .junk :: .junk :: .junk :: .junk :: .junk :: .junk :: .junk :: [],[.rows 1 (v10.map e_i)]⟩)) ?_ ?_ ?_ ?_
    · rintro ⟨v7,v8⟩ v0 hr
      dsimp only [ref04_Signs_l1] at hr
      try dsimp only
      refine wc_ T (g:=?_)
      rcases ifs hr with ⟨h5,hr⟩|⟨h5,hr⟩
      · have T:=an h5 T
        refine wa_ T (g:=?_)
        obtain ⟨v11,h6,hr⟩:=bs hr
        have h6m:=tidx_map (f:=e_i) h6
        have h6l:=getI_lt h6
        try simp only [List.length_set] at h6l
        have h6a:=getI_at h6
        have T:=an h6m T
        have T:=an h6l T
        have T:=an h6a T
        refine wA T (g:=?_)
        apply TO.sr e_i v7 v11 (IntKind.i64.wrap (1 - (IntKind.i64.wrap (2 * v11)))) h6a (wn T) rfl rfl rfl rfl rfl ok3 (by rw [cs3];rfl) rfl rfl rfl rfl
        repeat exact sd T
        refine wa_ T (g:=?_)
        cases hr
        refine ⟨rfl,?_⟩
        exact wk_ T [some 0] rfl (.rows .nil rfl rfl)
      · have T:=an h5 T
        refine wa_ T (g:=?_)
        cases hr
        refine ⟨rfl,?_⟩
        exact wk_ T [some 0] rfl (.rows .nil rfl rfl)
    · intro e h;cases h
    · try dsimp only
      refine wa_ T (g:=?_)
      cases hr
      refine ⟨.inr rfl,_,(ry T),?_⟩
      exact wr [some 0] rfl (.rows .nil rfl rfl)
    · try dsimp only
      exact wr [some 0] rfl (.rows .nil rfl rfl)
  rfl

end Go.Rex

namespace Go.Rex
open Go.Proofs
open Go Go.Rex Go.RowKit
set_option maxRecDepth 100000
set_option maxHeartbeats 200000
theorem base_Mod_spec {v1 : Int} {v2 : Int} {v3 : Int} (hr : base_Mod v1 v2 = some (v3)) : Spec (lim Try.prog) 95 [.v (.int .i64 v1),.v (.int .i64 v2)] ⟨[.v (.int .i64 v3)],[]⟩:=by
  unfold base_Mod at hr
  have T:=trivial
  apply Spec.fn Try.func95 rfl
  focus (simp [Try.f95]<;>exact rfl)
  focus
    refine wa_ T (g:=?_)
    by_cases h1 : v2 = 0
    · rw [if_pos h1] at hr
      cases hr
    · rw [if_neg h1] at hr
      have T:=an h1 T
      refine wa_ T (g:=?_)
      rcases ifs hr with ⟨h2,hr⟩|⟨h2,hr⟩
      · have T:=an h2 T
        refine wa_ T (g:=?_)
        cases hr
        refine ⟨.inr rfl,_,(ry T),?_⟩
        exact wk_ T [] rfl .nil
      · have T:=an h2 T
        refine wa_ T (g:=?_)
        cases hr
        refine ⟨.inr rfl,_,(ry T),?_⟩
        exact wk_ T [] rfl .nil
  rfl

end Go.Rex

namespace Go.Rex
open Go.Proofs
open Go Go.Rex Go.RowKit
set_option maxRecDepth 100000
set_option maxHeartbeats 1000000
def y55:=an @ag3 <| an @ar47 <| an @by47 <| an @cs3 <| an @cs47 <| an @ok3 <| an @ok47 <| an @so24 <| an @so46 <| an @so47 <| an @zc47 <| an @wi64_0a1 <| @wi64_0s0
theorem ref04_turned_spec {v1 : (List (Int × Int))} {v2 : (List Int)} {v3 : Bool} {v4 : (List (Int × Int))} (hr : ref04_turned v1 v2 v3 = some (v4)) : Spec (lim Try.prog) 52 [.list 2 (v1.map e_ii),.list 1 (v2.map e_i),.v (.bool v3)] ⟨[.lsl 0 0 v4.length],[.rows 2 (v4.map e_ii)]⟩:=by
  unfold ref04_turned at hr
  have T:=an y55 <| an @e_i.eq_1 <| @e_ii.eq_1
  apply Spec.fn Try.func52 rfl
  focus (simp [Try.f52]<;>exact rfl)
  focus
    refine wc_ T (g:=?_)
    obtain ⟨v5,h1,hr⟩:=bs hr
    apply TO.mk e_ii h1 (wn T) rfl rfl so46 zc47 by47 rfl rfl rfl
    repeat exact sd T
    refine wa_ T (g:=?_)
    obtain ⟨v97,h70,hr⟩:=bs hr
    refine TX.loopE (step:=ref04_turned_l1 v1 v2 v3) (x:=(v5,0)) h70 (fun (v6,v7)=>⟨.list 2 (v1.map e_ii) :: .list 1 (v2.map e_i) :: .v (.bool v3) :: .junk :: .junk :: .junk :: .junk :: .v (.int .i64 (v2.length : Int)) :: .lsl 0 0 v6.length :: .v (.int .i64 v7) :: .junk :: .junk :: .junk :: .junk :: .junk :: .junk :: .junk :: .junk :: .junk :: .junk :: .junk :: .junk :: .junk :: .junk :: .junk :: .junk :: .junk :: .junk :: .junk :: .junk :: .junk :: .junk :: .junk :: .junk :: .junk :: .junk :: .junk :: .junk :: .junk :: .junk :: .junk :: .junk :: .junk :: .junk :: .junk :: .junk :: .junk :: .junk :: .junk :: .junk :: .junk :: .junk :: .junk :: .junk :: .junk :: .junk :: .junk :: .junk :: .junk :: .junk :: .junk :: .junk :: .junk :: .junk :: .junk :: .junk :: .junk :: .junk :: .junk :: .junk :: .junk :: .junk :: .junk :: .junk :: .junk :: .junk :: .junk :: .junk :: .junk :: .junk :: .junk :: [],[.rows 2 (v6.map e_ii)]⟩) (fun v52=>(.exit 0,⟨.junk :: .junk :: .junk :: .junk :: .junk :: .junk :: .junk :: .junk :: .lsl 0 0 v52.length :: .junk :: .junk :: .junk :: .junk :: .junk :: .junk :: .junk :: .junk :: .junk :: .junk :: .junk :: .junk :: .junk :: .junk :: .junk :: .junk :: .junk :: .junk :: .junk :: .junk :: .junk :: .junk :: .junk :: .junk :: .junk :: .junk :: .junk :: .junk :: .junk :: .junk :: .junk :: .junk :: .junk :: .junk :: .junk :: .junk :: .junk :: .junk :: .junk :: .junk :: .junk :: .junk :: .junk :: .junk :: .junk :: .junk :: .junk :: .junk :: .junk :: .junk :: .junk :: .junk :: .junk :: .junk :: .junk :: .junk :: .junk :: .junk :: .junk :: .junk :: .junk :: .junk :: .junk :: .junk :: .junk :: .junk :: .junk :: .junk :: .junk :: .junk :: .junk :: .junk :: [],[.rows 2 (v52.map e_ii)]⟩)) ?_ ?_ ?_ ?_
    · rintro ⟨v6,v7⟩ v0 hr
      dsimp only [ref04_turned_l1] at hr
      try dsimp only
      refine wa_ T (g:=?_)
      rcases ifs hr with ⟨h36,hr⟩|⟨h36,hr⟩
      · have T:=an h36 T
        refine wa_ T (g:=?_)
        obtain ⟨v96,h69,hr⟩:=bs hr
        refine TX.loopE (step:=ref04_turned_l2 v1 v2 v3 v7) (x:=(v6,0)) h69 (fun (v53,v54)=>⟨.list 2 (v1.map e_ii) :: .list 1 (v2.map e_i) :: .v (.bool v3) :: .junk :: .junk :: .junk :: .junk :: .v (.int .i64 (v2.length : Int)) :: .lsl 0 0 v53.length :: .v (.int .i64 v7) :: .v (.int .i64 v54) :: .junk :: .junk :: .junk :: .junk :: .junk :: .junk :: .junk :: .junk :: .junk :: .junk :: .junk :: .junk :: .junk :: .junk :: .junk :: .junk :: .junk :: .junk :: .junk :: .junk :: .junk :: .junk :: .junk :: .junk :: .junk :: .junk :: .junk :: .junk :: .junk :: .junk :: .junk :: .junk :: .junk :: .junk :: .junk :: .junk :: .junk :: .junk :: .junk :: .junk :: .junk :: .junk :: .junk :: .junk :: .junk :: .junk :: .junk :: .junk :: .junk :: .junk :: .junk :: .junk :: .junk :: .junk :: .junk :: .junk :: .junk :: .junk :: .junk :: .junk :: .junk :: .junk :: .junk :: .junk :: .junk :: .junk :: .junk :: .junk :: .junk :: .junk :: [],[.rows 2 (v53.map e_ii)]⟩) (fun v75=>(.exit 2,⟨.list 2 (v1.map e_ii) :: .list 1 (v2.map e_i) :: .v (.bool v3) :: .junk :: .junk :: .junk :: .junk :: .v (.int .i64 (v2.length : Int)) :: .lsl 0 0 v75.length :: .v (.int .i64 v7) :: .junk :: .junk :: .junk :: .junk :: .junk :: .junk :: .junk :: .junk :: .junk :: .junk :: .junk :: .junk :: .junk :: .junk :: .junk :: .junk :: .junk :: .junk :: .junk :: .junk :: .junk :: .junk :: .junk :: .junk :: .junk :: .junk :: .junk :: .junk :: .junk :: .junk :: .junk :: .junk :: .junk :: .junk :: .junk :: .junk :: .junk :: .junk :: .junk :: .junk :: .junk :: .junk :: .junk :: .junk :: .junk :: .junk :: .junk :: .junk :: .junk :: .junk :: .junk :: .junk :: .junk :: .junk :: .junk :: .junk :: .junk :: .junk :: .junk :: .junk :: .junk :: .junk :: .junk :: .junk :: .junk :: .junk :: .junk :: .junk :: .junk :: .junk :: .junk :: [],[.rows 2 (v75.map e_ii)]⟩)) ?_ ?_ ?_ ?_
        · rintro ⟨v53,v54⟩ v0 hr
          dsimp only [ref04_turned_l2] at hr
          try dsimp only
          refine wa_ T (g:=?_)
          rcases ifs hr with ⟨h53,hr⟩|⟨h53,hr⟩
          · have T:=an h53 T
            refine wa_ T (g:=?_)
            rcases ifs hr with ⟨h54,hr⟩|⟨h54,hr⟩
            · have T:=an h54 T
              refine wa_ T (g:=?_)
              obtain ⟨⟨v76,v77⟩,h55,hr⟩:=bs hr
              try dsimp only at hr
              have h55m:=tidx_map (f:=e_ii) h55
              have h55l:=getI_lt h55
              try simp only [List.length_set] at h55l
              have h55a:=getI_at h55
              repeat (first|(with_reducible first|refine mv ?_|refine m12 rfl ?_|refine TD.nil ?_)|((with_reducible first|apply TD.ia|apply TD.ia|apply TD.ld|apply TD.mv);(repeat (focus (show _ = _;first|exact k1 rfl|exact k2 rfl|(simp only [zz,y55,e_i,e_ii,Nat.reduceAdd,Nat.reduceMul,Nat.reduceLeDiff,Nat.reduceEqDiff,tindexAddr,Nat.zero_add,z5,Int.reduceToNat,Int.reduceLE,Int.reduceLT,Int.cast_ofNat_Int,tload,rowOf,partT,List.getElem?_map,h36,h53,h54,h55m,h55l,h55a]<;>exact rfl)|exact rfl)));(with_reducible refine TD.here ?_))|((with_reducible apply TX.drawn);(focus decide +kernel);(focus (simp only [zl]<;>exact rfl));(focus exact rfl);(try dsimp only))|fail)
              obtain ⟨⟨v78,v79⟩,h56,hr⟩:=bs hr
              try dsimp only at hr
              have h56m:=tidx_map (f:=e_ii) h56
              have h56l:=getI_lt h56
              try simp only [List.length_set] at h56l
              have h56a:=getI_at h56
              repeat (first|(with_reducible first|refine mv ?_|refine m12 rfl ?_|refine TD.nil ?_)|((with_reducible first|apply TD.ia|apply TD.ia|apply TD.ld|apply TD.mv|apply TD.bin);(repeat (focus (show _ = _;first|exact k1 rfl|exact k2 rfl|(simp only [zz,y55,e_i,e_ii,Nat.reduceAdd,Nat.reduceMul,Nat.reduceLeDiff,Nat.reduceEqDiff,tindexAddr,Nat.zero_add,z5,Int.reduceToNat,Int.reduceLE,Int.reduceLT,Int.cast_ofNat_Int,tload,rowOf,partT,List.getElem?_map,h36,h53,h54,h55m,h55l,h55a,h56m,h56l,h56a]<;>exact rfl)|exact rfl)));(with_reducible refine TD.here ?_))|((with_reducible apply TX.drawn);(focus decide +kernel);(focus (simp only [zl]<;>exact rfl));(focus exact rfl);(try dsimp only))|fail)
              obtain ⟨v80,h57,hr⟩:=bs hr
              have T:=an h55m T
              have T:=an h55l T
              have T:=an h55a T
              have T:=an h56m T
              have T:=an h56l T
              have T:=an h56a T
              apply TD.cal (wn T) rfl goFn95 (base_Mod_spec h57) rfl rfl rfl
              repeat exact sd T
              refine wa_ T (g:=?_)
              obtain ⟨v81,h58,hr⟩:=bs hr
              have h58m:=tidx_map (f:=e_i) h58
              have h58l:=getI_lt h58
              try simp only [List.length_set] at h58l
              have h58a:=getI_at h58
              repeat (first|(with_reducible first|refine mv ?_|refine m12 rfl ?_|refine TD.nil ?_)|((with_reducible first|apply TD.ia|apply TD.ld|apply TD.bin|apply TD.ia);(repeat (focus (show _ = _;first|exact k1 rfl|exact k2 rfl|(simp only [zz,y55,e_i,e_ii,Nat.reduceAdd,Nat.reduceMul,Nat.reduceLeDiff,Nat.reduceEqDiff,tindexAddr,Nat.zero_add,tload,rowOf,partT,List.getElem?_map,z5,Int.reduceToNat,Int.reduceLE,Int.reduceLT,Int.cast_ofNat_Int,h36,h53,h54,h55m,h55l,h55a,h56m,h56l,h56a,h58m,h58l,h58a]<;>exact rfl)|exact rfl)));(with_reducible refine TD.here ?_))|((with_reducible apply TX.drawn);(focus decide +kernel);(focus (simp only [zl]<;>exact rfl));(focus exact rfl);(try dsimp only))|fail)
              have T:=an h58m T
              have T:=an h58l T
              have T:=an h58a T
              apply TD.sr e_ii v53 (v76,v77) ((IntKind.i64.wrap (v76 + (IntKind.i64.wrap (v78 * v81)))),v77) h55a (wn T) rfl rfl rfl rfl rfl ok3 (by rw [cs3];rfl) rfl rfl rfl rfl rfl
              repeat exact sd T
              refine wa_ T (g:=?_)
              obtain ⟨⟨v82,v83⟩,h59,hr⟩:=bs hr
              try dsimp only at hr
              have h59m:=tidx_map (f:=e_ii) h59
              have h59l:=getI_lt h59
              try simp only [List.length_set] at h59l
              have h59a:=getI_at h59
              repeat (first|(with_reducible first|refine mv ?_|refine m12 rfl ?_|refine TD.nil ?_)|((with_reducible first|apply TD.ia|apply TD.ia|apply TD.ld|apply TD.mv|apply TD.bin);(repeat (focus (show _ = _;first|exact k1 rfl|exact k2 rfl|(simp only [zz,y55,e_i,e_ii,Nat.reduceAdd,Nat.reduceMul,Nat.reduceLeDiff,Nat.reduceEqDiff,tindexAddr,Nat.zero_add,z5,Int.reduceToNat,Int.reduceLE,Int.reduceLT,Int.cast_ofNat_Int,tload,rowOf,partT,List.getElem?_map,h36,h53,h54,h55m,h55l,h55a,h56m,h56l,h56a,h58m,h58l,h58a,h59m,h59l,h59a]<;>exact rfl)|exact rfl)));(with_reducible refine TD.here ?_))|((with_reducible apply TX.drawn);(focus decide +kernel);(focus (simp only [zl]<;>exact rfl));(focus exact rfl);(try dsimp only))|fail)
              obtain ⟨v84,h60,hr⟩:=bs hr
              have T:=an h59m T
              have T:=an h59l T
              have T:=an h59a T
              apply TD.cal (wn T) rfl goFn95 (base_Mod_spec h60) rfl rfl rfl
              repeat exact sd T
              refine wa_ T (g:=?_)
              obtain ⟨v85,h61,hr⟩:=bs hr
              have h61m:=tidx_map (f:=e_i) h61
              have h61l:=getI_lt h61
              try simp only [List.length_set] at h61l
              have h61a:=getI_at h61
              repeat (first|(with_reducible first|refine mv ?_|refine m12 rfl ?_|refine TD.nil ?_)|((with_reducible first|apply TD.ia|apply TD.ld|apply TD.bin|apply TD.ia);(repeat (focus (show _ = _;first|exact k1 rfl|exact k2 rfl|(simp only [zz,y55,e_i,e_ii,Nat.reduceAdd,Nat.reduceMul,Nat.reduceLeDiff,Nat.reduceEqDiff,tindexAddr,Nat.zero_add,tload,rowOf,partT,List.getElem?_map,z5,Int.reduceToNat,Int.reduceLE,Int.reduceLT,Int.cast_ofNat_Int,h36,h53,h54,h55m,h55l,h55a,h56m,h56l,h56a,h58m,h58l,h58a,h59m,h59l,h59a,h61m,h61l,h61a]<;>exact rfl)|exact rfl)));(with_reducible refine TD.here ?_))|((with_reducible apply TX.drawn);(focus decide +kernel);(focus (simp only [zl]<;>exact rfl));(focus exact rfl);(try dsimp only))|fail)
              have T:=an h61m T
              have T:=an h61l T
              have T:=an h61a T
              apply TD.sr e_ii (v53.set v54.toNat ((IntKind.i64.wrap (v76 + (IntKind.i64.wrap (v78 * v81)))),v77)) (v82,v83) (v82,(IntKind.i64.wrap (v83 + (IntKind.i64.wrap (v79 * v85))))) h59a (wn T) rfl rfl rfl rfl rfl ok3 (by rw [cs3];rfl) rfl rfl rfl rfl rfl
              repeat exact sd T
              refine wa_ T (g:=?_)
              cases hr
              refine ⟨rfl,?_⟩
              exact wk_ T [some 0] rfl (.rows .nil rfl rfl)
            · have T:=an h54 T
              refine wa_ T (g:=?_)
              obtain ⟨⟨v86,v87⟩,h62,hr⟩:=bs hr
              try dsimp only at hr
              have h62m:=tidx_map (f:=e_ii) h62
              have h62l:=getI_lt h62
              try simp only [List.length_set] at h62l
              have h62a:=getI_at h62
              repeat (first|(with_reducible first|refine mv ?_|refine m12 rfl ?_|refine TD.nil ?_)|((with_reducible first|apply TD.ia|apply TD.ia|apply TD.ld|apply TD.mv);(repeat (focus (show _ = _;first|exact k1 rfl|exact k2 rfl|(simp only [zz,y55,e_i,e_ii,Nat.reduceAdd,Nat.reduceMul,Nat.reduceLeDiff,Nat.reduceEqDiff,tindexAddr,Nat.zero_add,z5,Int.reduceToNat,Int.reduceLE,Int.reduceLT,Int.cast_ofNat_Int,tload,rowOf,partT,List.getElem?_map,h36,h53,h54,h62m,h62l,h62a]<;>exact rfl)|exact rfl)));(with_reducible refine TD.here ?_))|((with_reducible apply TX.drawn);(focus decide +kernel);(focus (simp only [zl]<;>exact rfl));(focus exact rfl);(try dsimp only))|fail)
              obtain ⟨⟨v88,v89⟩,h63,hr⟩:=bs hr
              try dsimp only at hr
              have h63m:=tidx_map (f:=e_ii) h63
              have h63l:=getI_lt h63
              try simp only [List.length_set] at h63l
              have h63a:=getI_at h63
              repeat (first|(with_reducible first|refine mv ?_|refine m12 rfl ?_|refine TD.nil ?_)|((with_reducible first|apply TD.ia|apply TD.ia|apply TD.ld|apply TD.mv|apply TD.bin);(repeat (focus (show _ = _;first|exact k1 rfl|exact k2 rfl|(simp only [zz,y55,e_i,e_ii,Nat.reduceAdd,Nat.reduceMul,Nat.reduceLeDiff,Nat.reduceEqDiff,tindexAddr,Nat.zero_add,z5,Int.reduceToNat,Int.reduceLE,Int.reduceLT,Int.cast_ofNat_Int,tload,rowOf,partT,List.getElem?_map,h36,h53,h54,h62m,h62l,h62a,h63m,h63l,h63a]<;>exact rfl)|exact rfl)));(with_reducible refine TD.here ?_))|((with_reducible apply TX.drawn);(focus decide +kernel);(focus (simp only [zl]<;>exact rfl));(focus exact rfl);(try dsimp only))|fail)
              obtain ⟨v90,h64,hr⟩:=bs hr
              have T:=an h62m T
              have T:=an h62l T
              have T:=an h62a T
              have T:=an h63m T
              have T:=an h63l T
              have T:=an h63a T
              apply TD.cal (wn T) rfl goFn95 (base_Mod_spec h64) rfl rfl rfl
              repeat exact sd T
              refine wa_ T (g:=?_)
              obtain ⟨v91,h65,hr⟩:=bs hr
              have h65m:=tidx_map (f:=e_i) h65
              have h65l:=getI_lt h65
              try simp only [List.length_set] at h65l
              have h65a:=getI_at h65
              repeat (first|(with_reducible first|refine mv ?_|refine m12 rfl ?_|refine TD.nil ?_)|((with_reducible first|apply TD.ia|apply TD.ld|apply TD.bin|apply TD.ia);(repeat (focus (show _ = _;first|exact k1 rfl|exact k2 rfl|(simp only [zz,y55,e_i,e_ii,Nat.reduceAdd,Nat.reduceMul,Nat.reduceLeDiff,Nat.reduceEqDiff,tindexAddr,Nat.zero_add,tload,rowOf,partT,List.getElem?_map,z5,Int.reduceToNat,Int.reduceLE,Int.reduceLT,Int.cast_ofNat_Int,h36,h53,h54,h62m,h62l,h62a,h63m,h63l,h63a,h65m,h65l,h65a]<;>exact rfl)|exact rfl)));(with_reducible refine TD.here ?_))|((with_reducible apply TX.drawn);(focus decide +kernel);(focus (simp only [zl]<;>exact rfl));(focus exact rfl);(try dsimp only))|fail)
              have T:=an h65m T
              have T:=an h65l T
              have T:=an h65a T
              apply TD.sr e_ii v53 (v86,v87) ((IntKind.i64.wrap (v86 + (IntKind.i64.wrap (v88 * v91)))),v87) h62a (wn T) rfl rfl rfl rfl rfl ok3 (by rw [cs3];rfl) rfl rfl rfl rfl rfl
              repeat exact sd T
              refine wa_ T (g:=?_)
              obtain ⟨⟨v92,v93⟩,h66,hr⟩:=bs hr
              try dsimp only at hr
              have h66m:=tidx_map (f:=e_ii) h66
              have h66l:=getI_lt h66
              try simp only [List.length_set] at h66l
              have h66a:=getI_at h66
              repeat (first|(with_reducible first|refine mv ?_|refine m12 rfl ?_|refine TD.nil ?_)|((with_reducible first|apply TD.ia|apply TD.ia|apply TD.ld|apply TD.mv|apply TD.bin);(repeat (focus (show _ = _;first|exact k1 rfl|exact k2 rfl|(simp only [zz,y55,e_i,e_ii,Nat.reduceAdd,Nat.reduceMul,Nat.reduceLeDiff,Nat.reduceEqDiff,tindexAddr,Nat.zero_add,z5,Int.reduceToNat,Int.reduceLE,Int.reduceLT,Int.cast_ofNat_Int,tload,rowOf,partT,List.getElem?_map,h36,h53,h54,h62m,h62l,h62a,h63m,h63l,h63a,h65m,h65l,h65a,h66m,h66l,h66a]<;>exact rfl)|exact rfl)));(with_reducible refine TD.here ?_))|((with_reducible apply TX.drawn);(focus decide +kernel);(focus (simp only [zl]<;>exact rfl));(focus exact rfl);(try dsimp only))|fail)
              obtain ⟨v94,h67,hr⟩:=bs hr
              have T:=an h66m T
              have T:=an h66l T
              have T:=an h66a T
              apply TD.cal (wn T) rfl goFn95 (base_Mod_spec h67) rfl rfl rfl
              repeat exact sd T
              refine wa_ T (g:=?_)
              obtain ⟨v95,h68,hr⟩:=bs hr
              have h68m:=tidx_map (f:=e_i) h68
              have h68l:=getI_lt h68
              try simp only [List.length_set] at h68l
              have h68a:=getI_at h68
              repeat (first|(with_reducible first|refine mv ?_|refine m12 rfl ?_|refine TD.nil ?_)|((with_reducible first|apply TD.ia|apply TD.ld|apply TD.bin|apply TD.ia);(repeat (focus (show _ = _;first|exact k1 rfl|exact k2 rfl|(simp only [zz,y55,e_i,e_ii,Nat.reduceAdd,Nat.reduceMul,Nat.reduceLeDiff,Nat.reduceEqDiff,tindexAddr,Nat.zero_add,tload,rowOf,partT,List.getElem?_map,z5,Int.reduceToNat,Int.reduceLE,Int.reduceLT,Int.cast_ofNat_Int,h36,h53,h54,h62m,h62l,h62a,h63m,h63l,h63a,h65m,h65l,h65a,h66m,h66l,h66a,h68m,h68l,h68a]<;>exact rfl)|exact rfl)));(with_reducible refine TD.here ?_))|((with_reducible apply TX.drawn);(focus decide +kernel);(focus (simp only [zl]<;>exact rfl));(focus exact rfl);(try dsimp only))|fail)
              have T:=an h68m T
              have T:=an h68l T
              have T:=an h68a T
              apply TD.sr e_ii (v53.set v7.toNat ((IntKind.i64.wrap (v86 + (IntKind.i64.wrap (v88 * v91)))),v87)) (v92,v93) (v92,(IntKind.i64.wrap (v93 + (IntKind.i64.wrap (v89 * v95))))) h66a (wn T) rfl rfl rfl rfl rfl ok3 (by rw [cs3];rfl) rfl rfl rfl rfl rfl
              repeat exact sd T
              refine wa_ T (g:=?_)
              cases hr
              refine ⟨rfl,?_⟩
              exact wk_ T [some 0] rfl (.rows .nil rfl rfl)
          · have T:=an h53 T
            refine wa_ T (g:=?_)
            cases hr
            refine ⟨rfl,?_⟩
            exact wk_ T [some 0] rfl (.rows .nil rfl rfl)
        · intro e h;cases h
        · try dsimp only
          refine wa_ T (g:=?_)
          cases hr
          refine ⟨rfl,?_⟩
          exact wk_ T [some 0] rfl (.rows .nil rfl rfl)
        · try dsimp only
          exact wk_ T [some 0] rfl (.rows .nil rfl rfl)
      · have T:=an h36 T
        refine wa_ T (g:=?_)
        cases hr
        refine ⟨rfl,?_⟩
        exact wk_ T [some 0] rfl (.rows .nil rfl rfl)
    · intro e h;cases h
    · try dsimp only
      refine wa_ T (g:=?_)
      cases hr
      refine ⟨.inr rfl,_,(ry T),?_⟩
      exact wr [some 0] rfl (.rows .nil rfl rfl)
    · try dsimp only
      exact wr [some 0] rfl (.rows .nil rfl rfl)
  rfl

end Go.Rex

namespace Go.Rex
open Go.Proofs
open Go Go.Rex Go.RowKit
set_option maxRecDepth 100000
set_option maxHeartbeats 1000000
def y56:=an @ag26 <| an @cs26 <| @ok26
theorem ref04_Excited_spec {v1 : (List (Nat × Nat))} {v2 : Int} {v3 : (List Int)} {v4 : Int} {v5 : (List (Nat × Nat))} {v6 : Int} (hr : ref04_Excited v1 v2 v3 v4 = some (v5,v6)) : Spec (lim Try.prog) 14 [.list 1 (v1.map e_c),.agg [.v (.int .i64 v2),.list 1 (v3.map e_i)],.v (.int .i64 v4)] ⟨[.tuple [.lsl 0 0 v5.length,.v (.int .i64 v6)]],[.rows 1 (v5.map e_c)]⟩:=by
  unfold ref04_Excited at hr
  have T:=an y56 <| an @e_c.eq_1 <| @e_i.eq_1
  apply Spec.fn Try.func14 rfl
  focus (simp [Try.f14]<;>exact rfl)
  focus
    refine wb_ T (g:=?_)
    obtain ⟨v7,h1,hr⟩:=bs hr
    apply TO.cal (wn T) rfl goFn46 (ref04_ListErr_spec h1) rfl rfl rfl
    repeat exact sd T
    refine wa_ T (g:=?_)
    rcases ifs hr with ⟨h2,hr⟩|⟨h2,hr⟩
    · have T:=an h2 T
      refine wa_ T (g:=?_)
      cases hr
      refine ⟨.inr rfl,_,(ry T),?_⟩
      exact wk_ T [none] rfl (.virt .nil)
    · have T:=an h2 T
      refine wA T (g:=?_)
      obtain ⟨v8,h3,hr⟩:=bs hr
      apply TO.cal (wn T) rfl goFn50 (ref04_StartErr_spec h3) rfl rfl rfl
      repeat exact sd T
      refine wa_ T (g:=?_)
      rcases ifs hr with ⟨h4,hr⟩|⟨h4,hr⟩
      · have T:=an h4 T
        refine wa_ T (g:=?_)
        cases hr
        refine ⟨.inr rfl,_,(ry T),?_⟩
        exact wk_ T [none] rfl (.virt .nil)
      · have T:=an h4 T
        refine wa_ T (g:=?_)
        obtain ⟨v9,h5,hr⟩:=bs hr
        apply TD.cal (wn T) rfl goFn49 (ref04_Pairs_spec h5) rfl rfl rfl
        repeat exact sd T
        refine wA T (g:=?_)
        obtain ⟨v10,h6,hr⟩:=bs hr
        apply TD.cal (wn T) rfl goFn51 (ref04_Most_spec h6) rfl rfl rfl
        repeat exact sd T
        refine wa_ T (g:=?_)
        obtain ⟨v11,h7,hr⟩:=bs hr
        apply TD.lok (wn T) rfl goFn48 (ref04_folded_spec h7) (vw T) rfl rfl (by simp [clTB,cl,e_ff,e_c,e_ii,e_i])
        repeat exact sd T
        refine wa_ T (g:=?_)
        obtain ⟨⟨v12,v13⟩,h8,hr⟩:=bs hr
        try dsimp only at hr
        apply TO.lok (wn T) rfl goFn47 (ref04_told_spec h8) (vw T) rfl rfl (by simp [clTB,cl,e_ff,e_c,e_ii,e_i])
        repeat exact sd T
        refine wa_ T (g:=?_)
        rcases ifs hr with ⟨h9,hr⟩|⟨h9,hr⟩
        · have T:=an h9 T
          refine wa_ T (g:=?_)
          cases hr
          refine ⟨.inr rfl,_,(ry T),?_⟩
          exact wk_ T [none] rfl (.virt .nil)
        · have T:=an h9 T
          refine wA T (g:=?_)
          obtain ⟨v14,h10,hr⟩:=bs hr
          apply TO.cal (wn T) rfl goFn53 (ref04_Signs_spec h10) rfl rfl rfl
          repeat exact sd T
          refine wa_ T (g:=?_)
          obtain ⟨v15,h11,hr⟩:=bs hr
          apply TO.lok (wn T) rfl goFn52 (ref04_turned_spec h11) (vw T) rfl rfl (by simp [clTB,cl,e_ff,e_c,e_ii,e_i])
          repeat exact sd T
          refine wa_ T (g:=?_)
          obtain ⟨⟨v16,v17⟩,h12,hr⟩:=bs hr
          try dsimp only at hr
          apply TO.lok (wn T) rfl goFn47 (ref04_told_spec h12) (vw T) rfl rfl (by simp [clTB,cl,e_ff,e_c,e_ii,e_i])
          repeat exact sd T
          refine wa_ T (g:=?_)
          cases hr
          refine ⟨.inr rfl,_,(ry T),?_⟩
          exact wk_ T [some 5] rfl (.rows .nil rfl rfl)
  rfl

end Go.Rex

namespace Go.Rex
open Go.Proofs
open Go Go.Rex Go.RowKit
set_option maxRecDepth 100000
set_option maxHeartbeats 200000
def y57:=@ex97
theorem base_SameBits_spec {v1 : Nat} {v2 : Nat} {v3 : Nat} {v4 : Nat} {v5 : Bool} (hr : base_SameBits v1 v2 v3 v4 = some (v5)) : Spec (lim Try.prog) 54 [.v (.complex .f64 v1 v2),.v (.complex .f64 v3 v4)] ⟨[.v (.bool v5)],[]⟩:=by
  unfold base_SameBits at hr
  have T:=y57
  apply Spec.fn Try.func54 rfl
  focus (simp [Try.f54]<;>exact rfl)
  focus
    refine wa_ T (g:=?_)
    apply TO.pop1 (wn T) (pop_real rfl)
    repeat exact sd T
    refine wa_ T (g:=?_)
    obtain ⟨v6,h1,hr⟩:=bs hr
    apply TO.fb (wn T) rfl ex97 (by simp only [z1,z3,zl]<;>rfl) h1 rfl
    repeat exact sd T
    refine wa_ T (g:=?_)
    apply TO.pop1 (wn T) (pop_real rfl)
    repeat exact sd T
    refine wa_ T (g:=?_)
    obtain ⟨v7,h2,hr⟩:=bs hr
    apply TO.fb (wn T) rfl ex97 (by simp only [z1,z3,zl]<;>rfl) h2 rfl
    repeat exact sd T
    refine wa_ T (g:=?_)
    rcases ifs hr with ⟨h3,hr⟩|⟨h3,hr⟩
    · have T:=an h3 T
      refine wa_ T (g:=?_)
      apply TO.pop1 (wn T) (pop_imag rfl)
      repeat exact sd T
      refine wa_ T (g:=?_)
      obtain ⟨v8,h4,hr⟩:=bs hr
      apply TO.fb (wn T) rfl ex97 (by simp only [z1,z3,zl]<;>rfl) h4 rfl
      repeat exact sd T
      refine wa_ T (g:=?_)
      apply TO.pop1 (wn T) (pop_imag rfl)
      repeat exact sd T
      refine wa_ T (g:=?_)
      obtain ⟨v9,h5,hr⟩:=bs hr
      apply TO.fb (wn T) rfl ex97 (by simp only [z1,z3,zl]<;>rfl) h5 rfl
      repeat exact sd T
      refine wa_ T (g:=?_)
      cases hr
      refine ⟨.inr rfl,_,(ry T),?_⟩
      exact wk_ T [] rfl .nil
    · have T:=an h3 T
      refine wa_ T (g:=?_)
      cases hr
      refine ⟨.inr rfl,_,(ry T),?_⟩
      exact wk_ T [] rfl .nil
  rfl

end Go.Rex

namespace Go.Rex
open Go.Proofs
open Go Go.Rex Go.RowKit
set_option maxRecDepth 100000
set_option maxHeartbeats 200000
def y58:=an @ag49 <| an @cs49 <| an @ok49 <| an @so31 <| an @un105 <| an @un49 <| @wi64_0a1
theorem base_SameSamples_spec {v1 : (List (Nat × Nat))} {v2 : (List (Nat × Nat))} {v3 : Bool} (hr : base_SameSamples v1 v2 = some (v3)) : Spec (lim Try.prog) 15 [.list 1 (v1.map e_c),.list 1 (v2.map e_c)] ⟨[.v (.bool v3)],[]⟩:=by
  unfold base_SameSamples at hr
  have T:=an y58 <| @e_c.eq_1
  apply Spec.fn Try.func15 rfl
  focus (simp [Try.f15]<;>exact rfl)
  focus
    refine wc_ T (g:=?_)
    rcases ifs hr with ⟨h1,hr⟩|⟨h1,hr⟩
    · have T:=an h1 T
      refine wa_ T (g:=?_)
      cases hr
      refine ⟨.inr rfl,_,(ry T),?_⟩
      exact wk_ T [] rfl .nil
    · have T:=an h1 T
      refine wa_ T (g:=?_)
      obtain ⟨v23,h20,hr⟩:=bs hr
      refine TX.loopE (step:=base_SameSamples_l1 v1 v2) (x:=0) h20 (fun v4=>⟨.list 1 (v1.map e_c) :: .list 1 (v2.map e_c) :: .junk :: .junk :: .junk :: .v (.int .i64 v4) :: .junk :: .junk :: .junk :: .junk :: .junk :: .junk :: .junk :: .junk :: .junk :: .junk :: .junk :: .junk :: .junk :: .junk :: .junk :: .junk :: .junk :: .junk :: .junk :: .junk :: .junk :: .junk :: .junk :: [],[]⟩) (fun e=>match e with|(.inl _)=>(.ret,⟨.junk :: .junk :: .junk :: .junk :: .v (.bool false) :: .junk :: .junk :: .junk :: .junk :: .junk :: .junk :: .junk :: .junk :: .junk :: .junk :: .junk :: .junk :: .junk :: .junk :: .junk :: .junk :: .junk :: .junk :: .junk :: .junk :: .junk :: .junk :: .junk :: .junk :: [],[]⟩)|(.inr _)=>(.exit 0,⟨.junk :: .junk :: .junk :: .junk :: .junk :: .junk :: .junk :: .junk :: .junk :: .junk :: .junk :: .junk :: .junk :: .junk :: .junk :: .junk :: .junk :: .junk :: .junk :: .junk :: .junk :: .junk :: .junk :: .junk :: .junk :: .junk :: .junk :: .junk :: .junk :: [],[]⟩)) ?_ ?_ ?_ ?_
      · rintro v4 v0 hr
        dsimp only [base_SameSamples_l1] at hr
        try dsimp only
        refine wc_ T (g:=?_)
        rcases ifs hr with ⟨h11,hr⟩|⟨h11,hr⟩
        · have T:=an h11 T
          refine wa_ T (g:=?_)
          obtain ⟨⟨v14,v15⟩,h12,hr⟩:=bs hr
          try dsimp only at hr
          have T:=an (gx e_c h12) T
          refine wA T (g:=?_)
          obtain ⟨v16,h13,hr⟩:=bs hr
          obtain ⟨v17,h14,hr⟩:=bs hr
          apply TD.pop1 (wn T) (cvt_complex un49 un105 rfl h13 h14)
          repeat exact sd T
          refine wa_ T (g:=?_)
          obtain ⟨⟨v18,v19⟩,h15,hr⟩:=bs hr
          try dsimp only at hr
          have T:=an (gx e_c h15) T
          refine wA T (g:=?_)
          obtain ⟨v20,h16,hr⟩:=bs hr
          obtain ⟨v21,h17,hr⟩:=bs hr
          apply TD.pop1 (wn T) (cvt_complex un49 un105 rfl h16 h17)
          repeat exact sd T
          refine wa_ T (g:=?_)
          obtain ⟨v22,h18,hr⟩:=bs hr
          apply TD.cal (wn T) rfl goFn54 (base_SameBits_spec h18) rfl rfl rfl
          repeat exact sd T
          refine wa_ T (g:=?_)
          apply TD.pop1 (wn T) (pop_not rfl)
          repeat exact sd T
          refine wa_ T (g:=?_)
          rcases ifs hr with ⟨h19,hr⟩|⟨h19,hr⟩
          · have T:=an h19 T
            refine wa_ T (g:=?_)
            cases hr
            refine ⟨rfl,?_⟩
            exact wk_ T [] rfl .nil
          · have T:=an h19 T
            refine wa_ T (g:=?_)
            cases hr
            refine ⟨rfl,?_⟩
            exact wk_ T [] rfl .nil
        · have T:=an h11 T
          refine wa_ T (g:=?_)
          cases hr
          refine ⟨rfl,?_⟩
          exact wk_ T [] rfl .nil
      · intro e h;rcases e with _|e<;>cases h
      · try dsimp only
        rcases v23 with _|_
        · try dsimp only at hr
          try dsimp only
          refine wa_ T (g:=?_)
          cases hr
          refine ⟨.inr rfl,_,(ry T),?_⟩
          exact wk_ T [] rfl .nil
        · try dsimp only at hr
          try dsimp only
          refine wa_ T (g:=?_)
          cases hr
          refine ⟨.inr rfl,_,(ry T),?_⟩
          exact wk_ T [] rfl .nil
      · try dsimp only
        exact wk_ T [] rfl .nil
  rfl

end Go.Rex

namespace Go.Rex
open Go.Proofs
open Go Go.Rex Go.RowKit
set_option maxRecDepth 100000
theorem follows : Try.prog.follows .mixedOrders = true:=by decide +kernel
theorem awake_true : AwT Try.prog 7:=awT_of_ecall follows (k:=1000) (d:=50) (by decide +kernel)

end Go.Rex

namespace Go.Rex
open Go.Proofs
open Go Go.Rex Go.RowKit
set_option maxRecDepth 100000
set_option maxHeartbeats 4000000
def y59:=an @ag24 <| an @ag26 <| an @ag3 <| an @cs26 <| an @fd26_1 <| an @fd28_0 <| an @fd28_1 <| an @ok26 <| @so24
theorem law04_PulseExcites_law {v1 : (List (Nat × Nat))} {v2 : Int} {v3 : (List Int)} {v4 : Int} {v5 : Int} (hr : law04_PulseExcites v1 v2 v3 v4 v5 = some true) {Fz : Nat → Prop} {h : List Blk} {vs : List Value} (hfz : FZ Fz h) (hargs : VLs Fz h noL [.list 2 (v1.map e_ff), .agg [.v (.int .i64 v2), .list 1 (v3.map e_i), .v (.int .i64 v4)], .v (.int .i64 v5)] vs)
    {B lo : Nat} {D : Nat → Prop} {m : NMap} {w : World} {args' : List Value} (hrel : Rel B lo D m h w) (hlo : lo ≤ h.length) (hargs' : VRs D m vs args') : Calls Try.prog 3 ⟨args'⟩ w (fun e w'=>e = .returned (.bool true) ∧ Below w.heap.size w w'):=by
  unfold law04_PulseExcites at hr
  have T:=an y59 <| an @e_ff.eq_1 <| @e_i.eq_1
  refine law_tex follows awake_true Try.func3 rfl (tm0:=.list 2 (v1.map e_ff) :: .agg [.v (.int .i64 v2),.list 1 (v3.map e_i),.v (.int .i64 v4)] :: .v (.int .i64 v5) :: .junk :: .junk :: .junk :: .junk :: .junk :: .junk :: .junk :: .junk :: .junk :: .junk :: .junk :: .junk :: .junk :: .junk :: .junk :: .junk :: .junk :: .junk :: .junk :: .junk :: .junk :: .junk :: .junk :: .junk :: .junk :: .junk :: .junk :: .junk :: .junk :: .junk :: .junk :: .junk :: .junk :: .junk :: .junk :: .junk :: .junk :: .junk :: .junk :: .junk :: .junk :: .junk :: .junk :: .junk :: .junk :: .junk :: .junk :: .junk :: .junk :: .junk :: .junk :: .junk :: .junk :: .junk :: .junk :: .junk :: .junk :: .junk :: .junk :: .junk :: .junk :: .junk :: .junk :: .junk :: .junk :: .junk :: .junk :: .junk :: .junk :: .junk :: .junk :: .junk :: .junk :: .junk :: .junk :: .junk :: .junk :: .junk :: .junk :: .junk :: .junk :: .junk :: .junk :: .junk :: .junk :: []) (by simp [Try.f3]<;>exact rfl) ?_ hfz hargs hrel hlo hargs'
  refine wb_ T (g:=?_)
  apply TO.cal (wn T) rfl goFn7 Spec.awake rfl rfl rfl
  repeat exact sd T
  refine wa_ T (g:=?_)
  apply TO.pop1 (wn T) (pop_not rfl)
  repeat exact sd T
  refine wa_ T (g:=?_)
  obtain ⟨v7,h1,hr⟩:=bs hr
  apply TO.cal (wn T) rfl goFn8 (Spec.ov (law04_Few_spec h1) (by decide)) rfl rfl rfl
  repeat exact sd T
  refine wa_ T (g:=?_)
  apply TO.pop1 (wn T) (pop_not rfl)
  repeat exact sd T
  refine wa_ T (g:=?_)
  rcases ifs hr with ⟨h2,hr⟩|⟨h2,hr⟩
  · have T:=an h2 T
    refine wC T (g:=?_)
    rcases ifs hr with ⟨h3,hr⟩|⟨h3,hr⟩
    · have T:=an h3 T
      refine wa_ T (g:=?_)
      exact lv T hr
    · have T:=an h3 T
      refine wa_ T (g:=?_)
      rcases ifs hr with ⟨h4,hr⟩|⟨h4,hr⟩
      · have T:=an h4 T
        refine wa_ T (g:=?_)
        rcases ifs hr with ⟨h5,hr⟩|⟨h5,hr⟩
        · have T:=an h5 T
          refine wa_ T (g:=?_)
          exact lv T hr
        · have T:=an h5 T
          refine wa_ T (g:=?_)
          obtain ⟨v8,h6,hr⟩:=bs hr
          apply TO.cal (wn T) rfl goFn10 (Spec.ov (law04_List_spec h6) (by decide)) rfl rfl rfl
          repeat exact sd T
          refine wa_ T (g:=?_)
          obtain ⟨⟨v9,v10⟩,h7,hr⟩:=bs hr
          try dsimp only at hr
          apply TO.lok (wn T) rfl goFn9 (Spec.ov (pulse_Folded_spec h7) (by decide)) (vw T) rfl rfl (by simp [clTB,cl,e_ff,e_c,e_ii,e_i])
          repeat exact sd T
          refine wa_ T (g:=?_)
          obtain ⟨v11,h8,hr⟩:=bs hr
          apply TD.cal (wn T) rfl goFn10 (Spec.ov (law04_List_spec h8) (by decide)) rfl rfl rfl
          repeat exact sd T
          refine wA T (g:=?_)
          obtain ⟨⟨v12,v13⟩,h9,hr⟩:=bs hr
          try dsimp only at hr
          apply TD.cal (wn T) rfl goFn12 (Spec.ov (ref04_Copy_spec h9) (by decide)) rfl rfl rfl
          repeat exact sd T
          refine wA T (g:=?_)
          obtain ⟨⟨v14,v15⟩,h10,hr⟩:=bs hr
          try dsimp only at hr
          apply TD.lok (wn T) rfl goFn11 (Spec.ov (pulse_Excited_spec h10) (by decide)) (vw T) rfl rfl (by simp [clTB,cl,e_ff,e_c,e_ii,e_i])
          repeat exact sd T
          refine wa_ T (g:=?_)
          obtain ⟨v16,h11,hr⟩:=bs hr
          apply TO.cal (wn T) rfl goFn10 (Spec.ov (law04_List_spec h11) (by decide)) rfl rfl rfl
          repeat exact sd T
          refine wa_ T (g:=?_)
          obtain ⟨⟨v17,v18⟩,h12,hr⟩:=bs hr
          try dsimp only at hr
          apply TO.lok (wn T) rfl goFn13 (Spec.ov (ref04_Folded_spec h12) (by decide)) (vw T) rfl rfl (by simp [clTB,cl,e_ff,e_c,e_ii,e_i])
          repeat exact sd T
          refine wa_ T (g:=?_)
          obtain ⟨v19,h13,hr⟩:=bs hr
          apply TD.cal (wn T) rfl goFn10 (Spec.ov (law04_List_spec h13) (by decide)) rfl rfl rfl
          repeat exact sd T
          refine wA T (g:=?_)
          obtain ⟨⟨v20,v21⟩,h14,hr⟩:=bs hr
          try dsimp only at hr
          apply TD.lok (wn T) rfl goFn14 (Spec.ov (ref04_Excited_spec h14) (by decide)) (vw T) rfl rfl (by simp [clTB,cl,e_ff,e_c,e_ii,e_i])
          repeat exact sd T
          refine wa_ T (g:=?_)
          rcases ifs hr with ⟨h15,hr⟩|⟨h15,hr⟩
          · have T:=an h15 T
            refine wa_ T (g:=?_)
            obtain ⟨v22,h16,hr⟩:=bs hr
            apply TO.lok (wn T) rfl goFn15 (Spec.ov (base_SameSamples_spec h16) (by decide)) (vw T) rfl rfl (by simp [clTB,cl,e_ff,e_c,e_ii,e_i])
            repeat exact sd T
            refine wa_ T (g:=?_)
            rcases ifs hr with ⟨h17,hr⟩|⟨h17,hr⟩
            · have T:=an h17 T
              refine wa_ T (g:=?_)
              rcases ifs hr with ⟨h18,hr⟩|⟨h18,hr⟩
              · have T:=an h18 T
                refine wa_ T (g:=?_)
                obtain ⟨v23,h19,hr⟩:=bs hr
                apply TO.lok (wn T) rfl goFn15 (Spec.ov (base_SameSamples_spec h19) (by decide)) (vw T) rfl rfl (by simp [clTB,cl,e_ff,e_c,e_ii,e_i])
                repeat exact sd T
                refine wa_ T (g:=?_)
                exact lv T hr
              · have T:=an h18 T
                refine wa_ T (g:=?_)
                exact lv T hr
            · have T:=an h17 T
              refine wa_ T (g:=?_)
              exact lv T hr
          · have T:=an h15 T
            refine wa_ T (g:=?_)
            exact lv T hr
      · have T:=an h4 T
        refine wa_ T (g:=?_)
        obtain ⟨v24,h20,hr⟩:=bs hr
        apply TO.cal (wn T) rfl goFn10 (Spec.ov (law04_List_spec h20) (by decide)) rfl rfl rfl
        repeat exact sd T
        refine wa_ T (g:=?_)
        obtain ⟨⟨v25,v26⟩,h21,hr⟩:=bs hr
        try dsimp only at hr
        apply TO.lok (wn T) rfl goFn9 (Spec.ov (pulse_Folded_spec h21) (by decide)) (vw T) rfl rfl (by simp [clTB,cl,e_ff,e_c,e_ii,e_i])
        repeat exact sd T
        refine wa_ T (g:=?_)
        obtain ⟨v27,h22,hr⟩:=bs hr
        apply TD.cal (wn T) rfl goFn10 (Spec.ov (law04_List_spec h22) (by decide)) rfl rfl rfl
        repeat exact sd T
        refine wA T (g:=?_)
        obtain ⟨⟨v28,v29⟩,h23,hr⟩:=bs hr
        try dsimp only at hr
        apply TD.cal (wn T) rfl goFn12 (Spec.ov (ref04_Copy_spec h23) (by decide)) rfl rfl rfl
        repeat exact sd T
        refine wA T (g:=?_)
        obtain ⟨⟨v30,v31⟩,h24,hr⟩:=bs hr
        try dsimp only at hr
        apply TD.lok (wn T) rfl goFn11 (Spec.ov (pulse_Excited_spec h24) (by decide)) (vw T) rfl rfl (by simp [clTB,cl,e_ff,e_c,e_ii,e_i])
        repeat exact sd T
        refine wa_ T (g:=?_)
        obtain ⟨v32,h25,hr⟩:=bs hr
        apply TO.cal (wn T) rfl goFn10 (Spec.ov (law04_List_spec h25) (by decide)) rfl rfl rfl
        repeat exact sd T
        refine wa_ T (g:=?_)
        obtain ⟨⟨v33,v34⟩,h26,hr⟩:=bs hr
        try dsimp only at hr
        apply TO.lok (wn T) rfl goFn13 (Spec.ov (ref04_Folded_spec h26) (by decide)) (vw T) rfl rfl (by simp [clTB,cl,e_ff,e_c,e_ii,e_i])
        repeat exact sd T
        refine wa_ T (g:=?_)
        obtain ⟨v35,h27,hr⟩:=bs hr
        apply TD.cal (wn T) rfl goFn10 (Spec.ov (law04_List_spec h27) (by decide)) rfl rfl rfl
        repeat exact sd T
        refine wA T (g:=?_)
        obtain ⟨⟨v36,v37⟩,h28,hr⟩:=bs hr
        try dsimp only at hr
        apply TD.lok (wn T) rfl goFn14 (Spec.ov (ref04_Excited_spec h28) (by decide)) (vw T) rfl rfl (by simp [clTB,cl,e_ff,e_c,e_ii,e_i])
        repeat exact sd T
        refine wa_ T (g:=?_)
        rcases ifs hr with ⟨h29,hr⟩|⟨h29,hr⟩
        · have T:=an h29 T
          refine wa_ T (g:=?_)
          obtain ⟨v38,h30,hr⟩:=bs hr
          apply TO.lok (wn T) rfl goFn15 (Spec.ov (base_SameSamples_spec h30) (by decide)) (vw T) rfl rfl (by simp [clTB,cl,e_ff,e_c,e_ii,e_i])
          repeat exact sd T
          refine wa_ T (g:=?_)
          rcases ifs hr with ⟨h31,hr⟩|⟨h31,hr⟩
          · have T:=an h31 T
            refine wa_ T (g:=?_)
            rcases ifs hr with ⟨h32,hr⟩|⟨h32,hr⟩
            · have T:=an h32 T
              refine wa_ T (g:=?_)
              obtain ⟨v39,h33,hr⟩:=bs hr
              apply TO.lok (wn T) rfl goFn15 (Spec.ov (base_SameSamples_spec h33) (by decide)) (vw T) rfl rfl (by simp [clTB,cl,e_ff,e_c,e_ii,e_i])
              repeat exact sd T
              refine wa_ T (g:=?_)
              exact lv T hr
            · have T:=an h32 T
              refine wa_ T (g:=?_)
              exact lv T hr
          · have T:=an h31 T
            refine wa_ T (g:=?_)
            exact lv T hr
        · have T:=an h29 T
          refine wa_ T (g:=?_)
          exact lv T hr
  · have T:=an h2 T
    refine wa_ T (g:=?_)
    exact lv T hr

end Go.Rex
