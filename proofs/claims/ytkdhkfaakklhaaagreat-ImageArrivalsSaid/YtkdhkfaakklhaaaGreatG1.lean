/- Proofs that the program's functions do what these plain functions say. -/
import Derived.Test.YtkdhkfaakklhaaaGreatGB
import Derived.Test.YtkdhkfaakklhaaaGreatS
import Derived.Test.YtkdhkfaakklhaaaGreatCZ
set_option linter.unusedSimpArgs false
set_option linter.unusedVariables false
set_option linter.defProp false
namespace Go.Rex
open Go.Proofs
open Go Go.Rex Go.RowKit
set_option maxRecDepth 100000
set_option maxHeartbeats 200000
def y1:=an @by3 <| an @cs3 <| an @ni26 <| an @so26 <| @zc3
theorem base_CopyInts_spec {v1 : (List Int)} {v2 : (List Int)} (hr : base_CopyInts v1 = some (v2)) : Spec (lim Tryz.prog) 46 [.list 1 (v1.map e_i)] ⟨[.lsl 0 0 v2.length],[.rows 1 (v2.map e_i)]⟩:=by
  unfold base_CopyInts at hr
  have T:=an y1 <| @e_i.eq_1
  apply Spec.fn Tryz.func46 rfl
  focus (simp [Tryz.f46]<;>exact rfl)
  focus
    refine wa_ T (g:=?_)
    apply TO.bl e_i ([] : List Int) (wn T) rfl (by simp only [zz,y1,e_i,Nat.reduceAdd,Nat.reduceMul,Nat.reduceLeDiff,Nat.reduceEqDiff,tslice,tparts];exact rfl) rfl rfl
    repeat exact sd T
    refine wa_ T (g:=?_)
    obtain ⟨v3,h1,hr⟩:=bs hr
    apply TO.ap (f:=e_i) (xs:=([] : List Int)) (ys:=v1) (wn T) rfl rfl (by first|rfl|simp only [List.length_set]) rfl rfl so26 ni26 zc3 rfl (by rw [by3];exact h1) (fun _=>⟨rfl,rfl,rfl⟩)
    repeat exact sd T
    refine wa_ T (g:=?_)
    cases hr
    refine ⟨.inr rfl,_,(ry T),?_⟩
    exact wr [some 0] rfl (.rows .nil rfl rfl)
  rfl

end Go.Rex

namespace Go.Rex
open Go.Proofs
open Go Go.Rex Go.RowKit
set_option maxRecDepth 100000
set_option maxHeartbeats 200000
def y2:=an @ag26 <| an @ag27 <| an @ag29 <| an @ag3 <| an @by72 <| an @cs29 <| an @cs72 <| an @fd29_0 <| an @fd29_1 <| an @fd29_2 <| an @ni27 <| an @ok29 <| an @so27 <| an @st29 <| an @zc29 <| @zc72
theorem ref02_CopyPath_spec {v1 : (List Int)} {v2 : (List (Int × Int × Int × Int))} {v3 : Int} {v4 : (List Int)} {v5 : (List (Int × Int × Int × Int))} {v6 : Int} (hr : ref02_CopyPath v1 v2 v3 = some (v4,v5,v6)) : Spec (lim Tryz.prog) 25 [.agg [.list 1 (v1.map e_i),.list 4 (v2.map e_iiii),.v (.int .i64 v3)]] ⟨[.agg [.lsl 0 0 v4.length,.lsl 1 0 v5.length,.v (.int .i64 v6)]],[.rows 1 (v4.map e_i),.rows 4 (v5.map e_iiii)]⟩:=by
  unfold ref02_CopyPath at hr
  have T:=an y2 <| an @e_i.eq_1 <| @e_iiii.eq_1
  apply Spec.fn Tryz.func25 rfl
  focus (simp [Tryz.f25]<;>exact rfl)
  focus
    repeat (first|(with_reducible first|refine mv ?_|refine TO.nil ?_)|((with_reducible first|apply TO.bf|apply TO.al);(repeat (focus (show _ = _;first|exact k1 rfl|exact k2 rfl|(simp only [zz,y2,e_i,e_iiii,Nat.reduceAdd,Nat.reduceMul,Nat.reduceLeDiff,Nat.reduceEqDiff]<;>exact rfl)|exact rfl)));(with_reducible apply TO.here))|((with_reducible apply TX.region);(focus (simp only [zl]<;>exact rfl));(focus rfl);(try dsimp only))|with_reducible refine TD.nil ?_|((with_reducible first|apply TD.fa|apply TD.ld );(repeat (focus (show _ = _;first|exact k1 rfl|exact k2 rfl|(simp only [zz,y2,e_i,e_iiii,Nat.reduceAdd,Nat.reduceMul,Nat.reduceLeDiff,Nat.reduceEqDiff,tfieldAddr,tload,rowOf,partT,List.getElem?_map]<;>exact rfl)|exact rfl)));(with_reducible refine TD.here ?_))|((with_reducible apply TD.ldF);(focus decide +kernel);(repeat (focus (show _ = _;first|exact k1 rfl|exact k2 rfl|(simp only [zz,y2,e_i,e_iiii,Nat.reduceAdd,Nat.reduceMul,Nat.reduceLeDiff,Nat.reduceEqDiff,tfieldAddr,tload,rowOf,partT,List.getElem?_map]<;>exact rfl)|exact rfl)));(with_reducible refine TD.here ?_))|((with_reducible apply TX.drawn);(focus decide +kernel);(focus (simp only [zl]<;>exact rfl));(focus exact rfl);(try dsimp only))|fail)
    obtain ⟨v7,h1,hr⟩:=bs hr
    apply TD.cal (wn T) rfl goFn46 (base_CopyInts_spec h1) rfl rfl rfl
    repeat exact sd T
    refine wa_ T (g:=?_)
    apply TD.bl e_iiii ([] : List (Int × Int × Int × Int)) (wn T) rfl (by simp only [zz,y2,e_i,e_iiii,Nat.reduceAdd,Nat.reduceMul,Nat.reduceLeDiff,Nat.reduceEqDiff,tslice,tparts];exact rfl) rfl rfl
    repeat exact sd T
    repeat (first|(with_reducible first|refine mv ?_|refine TD.nil ?_)|((with_reducible first|apply TD.fa|apply TD.ld );(repeat (focus (show _ = _;first|exact k1 rfl|exact k2 rfl|(simp only [zz,y2,e_i,e_iiii,Nat.reduceAdd,Nat.reduceMul,Nat.reduceLeDiff,Nat.reduceEqDiff,tfieldAddr,tload,rowOf,partT,List.getElem?_map]<;>exact rfl)|exact rfl)));(with_reducible refine TD.here ?_))|((with_reducible apply TD.ldF);(focus decide +kernel);(repeat (focus (show _ = _;first|exact k1 rfl|exact k2 rfl|(simp only [zz,y2,e_i,e_iiii,Nat.reduceAdd,Nat.reduceMul,Nat.reduceLeDiff,Nat.reduceEqDiff,tfieldAddr,tload,rowOf,partT,List.getElem?_map]<;>exact rfl)|exact rfl)));(with_reducible refine TD.here ?_))|((with_reducible apply TX.drawn);(focus decide +kernel);(focus (simp only [zl]<;>exact rfl));(focus exact rfl);(try dsimp only))|fail)
    obtain ⟨v8,h2,hr⟩:=bs hr
    apply TD.apf (f:=e_iiii) (xs:=([] : List (Int × Int × Int × Int))) (ys:=v2) (wn T) rfl rfl (by first|rfl|simp only [List.length_set]) rfl rfl so27 ni27 zc72 rfl (by rw [by72];exact h2) (fun _=>⟨rfl,rfl,rfl⟩) rfl
    repeat exact sd T
    repeat (first|(with_reducible first|refine mv ?_|refine TD.nil ?_)|((with_reducible first|apply TD.fa|apply TD.ld|apply TD.bld|apply TD.sv);(repeat (focus (show _ = _;first|exact k1 rfl|exact k2 rfl|(simp only [zz,y2,e_i,e_iiii,Nat.reduceAdd,Nat.reduceMul,Nat.reduceLeDiff,Nat.reduceEqDiff,tfieldAddr,tload,rowOf,partT,List.getElem?_map,tbuild,tfill]<;>exact rfl)|exact rfl)));(with_reducible refine TD.here ?_))|((with_reducible apply TD.ldF);(focus decide +kernel);(repeat (focus (show _ = _;first|exact k1 rfl|exact k2 rfl|(simp only [zz,y2,e_i,e_iiii,Nat.reduceAdd,Nat.reduceMul,Nat.reduceLeDiff,Nat.reduceEqDiff,tfieldAddr,tload,rowOf,partT,List.getElem?_map,tbuild,tfill]<;>exact rfl)|exact rfl)));(with_reducible refine TD.here ?_))|((with_reducible apply TX.drawn);(focus decide +kernel);(focus (simp only [zl]<;>exact rfl));(focus exact rfl);(try dsimp only))|fail)
    cases hr
    refine ⟨.inr rfl,_,(ry T),?_⟩
    exact wr [some 1,some 2] rfl (.rows (.rows .nil rfl rfl) rfl rfl)
  rfl

end Go.Rex

namespace Go.Rex
open Go.Proofs
open Go Go.Rex Go.RowKit
set_option maxRecDepth 100000
set_option maxHeartbeats 200000
def y3:=an @ag29 <| an @by29 <| an @cs29 <| an @ni22 <| an @ok29 <| an @so22 <| an @zc29 <| @wi64_0a1
theorem ref02_CopyPaths_spec {v1 : (List ((List Int) × (List (Int × Int × Int × Int)) × Int))} {v2 : (List ((List Int) × (List (Int × Int × Int × Int)) × Int))} (hr : ref02_CopyPaths v1 = some (v2)) : Spec (lim Tryz.prog) 6 [.list 3 (v1.map e_Li_Liiii_i)] ⟨[.lsl 0 0 v2.length],[.rows 3 (v2.map e_Li_Liiii_i)]⟩:=by
  unfold ref02_CopyPaths at hr
  have T:=an y3 <| @e_Li_Liiii_i.eq_1
  apply Spec.fn Tryz.func6 rfl
  focus (simp [Tryz.f6]<;>exact rfl)
  focus
    refine wa_ T (g:=?_)
    apply TX.vt (α:=((List Int) × (List (Int × Int × Int × Int)) × Int)) e_Li_Liiii_i 3 3 rfl
    repeat exact sd T
    with_reducible apply TX.here
    refine wa_ T (g:=?_)
    obtain ⟨v20,h9,hr⟩:=bs hr
    refine TX.loopE (step:=ref02_CopyPaths_l1 v1) (x:=(([] : List ((List Int) × (List (Int × Int × Int × Int)) × Int)),0)) h9 (fun (v3,v4)=>⟨.list 3 (v1.map e_Li_Liiii_i) :: .junk :: .junk :: .lsl 0 0 v3.length :: .v (.int .i64 v4) :: .junk :: .junk :: .junk :: .junk :: .junk :: .junk :: .junk :: .junk :: .junk :: .junk :: .junk :: .junk :: .junk :: .junk :: .junk :: [],[.rows 3 (v3.map e_Li_Liiii_i)]⟩) (fun v12=>(.exit 0,⟨.junk :: .junk :: .junk :: .lsl 0 0 v12.length :: .junk :: .junk :: .junk :: .junk :: .junk :: .junk :: .junk :: .junk :: .junk :: .junk :: .junk :: .junk :: .junk :: .junk :: .junk :: .junk :: [],[.rows 3 (v12.map e_Li_Liiii_i)]⟩)) ?_ ?_ ?_ ?_
    · rintro ⟨v3,v4⟩ v0 hr
      dsimp only [ref02_CopyPaths_l1] at hr
      try dsimp only
      refine wc_ T (g:=?_)
      rcases ifs hr with ⟨h5,hr⟩|⟨h5,hr⟩
      · have T:=an h5 T
        refine wa_ T (g:=?_)
        obtain ⟨⟨v13,v14,v15⟩,h6,hr⟩:=bs hr
        try dsimp only at hr
        have h6m:=tidx_map (f:=e_Li_Liiii_i) h6
        have h6l:=getI_lt h6
        try simp only [List.length_set] at h6l
        have h6a:=getI_at h6
        have T:=an h6m T
        have T:=an h6l T
        have T:=an h6a T
        refine wA T (g:=?_)
        obtain ⟨⟨v16,v17,v18⟩,h7,hr⟩:=bs hr
        try dsimp only at hr
        apply TO.cal (wn T) rfl goFn25 (ref02_CopyPath_spec h7) rfl rfl rfl
        repeat exact sd T
        refine wa_ T (g:=?_)
        apply TO.frz 1 rfl rfl
        repeat exact sd T
        refine wa_ T (g:=?_)
        apply TO.frz 2 rfl rfl
        repeat exact sd T
        refine wa_ T (g:=?_)
        apply TO.bm e_Li_Liiii_i ([(v16,v17,v18)] : List ((List Int) × (List (Int × Int × Int × Int)) × Int)) (wn T) rfl (by simp only [zz,y3,e_Li_Liiii_i,Nat.reduceAdd,Nat.reduceMul,Nat.reduceLeDiff,Nat.reduceEqDiff,tslice,tparts,h5,h6m,h6l,h6a];exact rfl) rfl
        repeat exact sd T
        refine wa_ T (g:=?_)
        obtain ⟨v19,h8,hr⟩:=bs hr
        apply TO.ap (f:=e_Li_Liiii_i) (xs:=v3) (ys:=([(v16,v17,v18)] : List ((List Int) × (List (Int × Int × Int × Int)) × Int))) (wn T) rfl rfl (by first|rfl|simp only [List.length_set]) rfl rfl so22 ni22 zc29 rfl (by rw [by29];exact h8) (fun _=>⟨rfl,rfl,rfl⟩)
        repeat exact sd T
        refine wa_ T (g:=?_)
        cases hr
        refine ⟨rfl,?_⟩
        exact wk_ T [some 0] rfl (.rows .nil rfl rfl)
      · have T:=an h5 T
        refine wa_ T (g:=?_)
        cases hr
        refine ⟨rfl,?_⟩
        exact wk_ T [some 0] rfl (.rows .nil rfl rfl)
    · intro e h;cases h
    · try dsimp only
      refine wa_ T (g:=?_)
      cases hr
      refine ⟨.inr rfl,_,(ry T),?_⟩
      exact wr [some 0] rfl (.rows .nil rfl rfl)
    · try dsimp only
      exact wr [some 0] rfl (.rows .nil rfl rfl)
  rfl

end Go.Rex

namespace Go.Rex
open Go.Proofs
open Go Go.Rex Go.RowKit
set_option maxRecDepth 100000
set_option maxHeartbeats 200000
theorem image_listed_spec {v1 : (List ((List Int) × (List (Int × Int × Int × Int)) × Int))} {v2 : (List ((List Int) × (List (Int × Int × Int × Int)) × Int))} (hr : image_listed v1 = some (v2)) : Spec (lim Tryz.prog) 21 [.list 3 (v1.map e_Li_Liiii_i)] ⟨[.func 42 [] [.fptr true [.list 3 (v2.map e_Li_Liiii_i)] 0]],[]⟩:=by
  unfold image_listed at hr
  have T:=@e_Li_Liiii_i.eq_1
  apply Spec.fn Tryz.func21 rfl
  focus (simp [Tryz.f21]<;>exact rfl)
  focus
    refine wb_ T (g:=?_)
    cases hr
    refine ⟨.inr rfl,_,(ry T),?_⟩
    exact wr [] rfl .nil
  rfl

end Go.Rex

namespace Go.Rex
open Go.Proofs
open Go Go.Rex Go.RowKit
set_option maxRecDepth 100000
set_option maxHeartbeats 200000
theorem image_refuse_spec {v1 : Bool} {v2 : Int} {v3 : Bool} {v4 : Int} (hr : image_refuse v1 v2 = some (v3,v4)) : Spec (lim Tryz.prog) 23 [.v (.bool v1),.v (.int .i64 v2)] ⟨[.func 43 [] [.fptr true [.v (.bool v3)] 0,.fptr true [.v (.int .i64 v4)] 0]],[]⟩:=by
  unfold image_refuse at hr
  have T:=trivial
  apply Spec.fn Tryz.func23 rfl
  focus (simp [Tryz.f23]<;>exact rfl)
  focus
    refine wb_ T (g:=?_)
    cases hr
    refine ⟨.inr rfl,_,(ry T),?_⟩
    exact wr [] rfl .nil
  rfl

end Go.Rex

namespace Go.Rex
open Go.Proofs
open Go Go.Rex Go.RowKit
set_option maxRecDepth 100000
set_option maxHeartbeats 200000
theorem image_within_spec {v1 : Int} {v2 : Int} {v3 : Int} {v4 : Bool} {v5 : Int} (hr : image_within v1 v2 v3 = some (v4,v5)) : Spec (lim Tryz.prog) 26 [.v (.int .i64 v1),.v (.int .i64 v2),.v (.int .i64 v3)] ⟨[.func 43 [] [.fptr true [.v (.bool v4)] 0,.fptr true [.v (.int .i64 v5)] 0]],[]⟩:=by
  unfold image_within at hr
  have T:=trivial
  apply Spec.fn Tryz.func26 rfl
  focus (simp [Tryz.f26]<;>exact rfl)
  focus
    refine wa_ T (g:=?_)
    rcases ifs hr with ⟨h1,hr⟩|⟨h1,hr⟩
    · have T:=an h1 T
      refine wa_ T (g:=?_)
      obtain ⟨⟨v6,v7⟩,h2,hr⟩:=bs hr
      try dsimp only at hr
      apply TO.cal (wn T) rfl goFn23 (image_refuse_spec h2) rfl rfl rfl
      repeat exact sd T
      refine wa_ T (g:=?_)
      cases hr
      refine ⟨.inr rfl,_,(ry T),?_⟩
      exact wk_ T [] rfl .nil
    · have T:=an h1 T
      refine wa_ T (g:=?_)
      obtain ⟨⟨v8,v9⟩,h3,hr⟩:=bs hr
      try dsimp only at hr
      apply TO.cal (wn T) rfl goFn23 (image_refuse_spec h3) rfl rfl rfl
      repeat exact sd T
      refine wa_ T (g:=?_)
      cases hr
      refine ⟨.inr rfl,_,(ry T),?_⟩
      exact wk_ T [] rfl .nil
  rfl

end Go.Rex

namespace Go.Rex
open Go.Proofs
open Go Go.Rex Go.RowKit
set_option maxRecDepth 100000
set_option maxHeartbeats 200000
theorem image_audible_spec {v1 : Int} {v2 : Bool} {v3 : Int} (hr : image_audible v1 = some (v2,v3)) : Spec (lim Tryz.prog) 22 [.v (.int .i64 v1)] ⟨[.func 43 [] [.fptr true [.v (.bool v2)] 0,.fptr true [.v (.int .i64 v3)] 0]],[]⟩:=by
  unfold image_audible at hr
  have T:=trivial
  apply Spec.fn Tryz.func22 rfl
  focus (simp [Tryz.f22]<;>exact rfl)
  focus
    refine wa_ T (g:=?_)
    obtain ⟨⟨v4,v5⟩,h1,hr⟩:=bs hr
    try dsimp only at hr
    apply TO.cal (wn T) rfl goFn26 (image_within_spec h1) rfl rfl rfl
    repeat exact sd T
    refine wa_ T (g:=?_)
    cases hr
    refine ⟨.inr rfl,_,(ry T),?_⟩
    exact wr [] rfl .nil
  rfl

end Go.Rex

namespace Go.Rex
open Go.Proofs
open Go Go.Rex Go.RowKit
set_option maxRecDepth 100000
set_option maxHeartbeats 200000
theorem image_whole_spec {v1 : (List Int)} {v2 : (List (Int × Int × Int × Int))} {v3 : Int} {v4 : (List Int)} {v5 : (List (Int × Int × Int × Int))} {v6 : Int} (hr : image_whole v1 v2 v3 = some (v4,v5,v6)) : Spec (lim Tryz.prog) 32 [.agg [.list 1 (v1.map e_i),.list 4 (v2.map e_iiii),.v (.int .i64 v3)]] ⟨[.func 60 [] [.fptr true [.list 1 (v4.map e_i),.list 4 (v5.map e_iiii),.v (.int .i64 v6)] 0]],[]⟩:=by
  unfold image_whole at hr
  have T:=an @e_i.eq_1 <| @e_iiii.eq_1
  apply Spec.fn Tryz.func32 rfl
  focus (simp [Tryz.f32]<;>exact rfl)
  focus
    refine wb_ T (g:=?_)
    cases hr
    refine ⟨.inr rfl,_,(ry T),?_⟩
    exact wr [] rfl .nil
  rfl

end Go.Rex

namespace Go.Rex
open Go.Proofs
open Go Go.Rex Go.RowKit
set_option maxRecDepth 100000
set_option maxHeartbeats 200000
def y4:=an @ag32 <| @ag4
theorem image_refuse_c1_11f9_spec {v1 : Bool} {v2 : Int} {v3 : Int} (hr : image_refuse_c1_11f9 v1 v2 = some (v3)) : Spec (lim Tryz.prog) 43 [.fptr true [.v (.bool v1)] 0,.fptr true [.v (.int .i64 v2)] 0] ⟨[.v (.int .i64 v3)],[]⟩:=by
  unfold image_refuse_c1_11f9 at hr
  have T:=y4
  apply Spec.fn Tryz.func43 rfl
  focus (simp [Tryz.f43]<;>exact rfl)
  focus
    refine wA T (g:=?_)
    rcases ifs hr with ⟨h1,hr⟩|⟨h1,hr⟩
    · have T:=an h1 T
      refine wA T (g:=?_)
      cases hr
      refine ⟨.inr rfl,_,(ry T),?_⟩
      exact wk_ T [] rfl .nil
    · have T:=an h1 T
      refine wa_ T (g:=?_)
      cases hr
      refine ⟨.inr rfl,_,(ry T),?_⟩
      exact wk_ T [] rfl .nil
  rfl

end Go.Rex

namespace Go.Rex
open Go.Proofs
open Go Go.Rex Go.RowKit
set_option maxRecDepth 100000
set_option maxHeartbeats 200000
def y5:=an @ag78 <| an @cs78 <| an @ok78 <| an @so119 <| an @wi64_0a1 <| an @wi64_1a1 <| @wi64_2a1
theorem image_firstError_262d_spec {v1 : Bool} {v2 : Int} {v3 : Bool} {v4 : Int} {v5 : Bool} {v6 : Int} {v7 : Int} (hr : image_firstError_262d v1 v2 v3 v4 v5 v6 = some (v7)) : Spec (lim Tryz.prog) 20 [.list 1 [[.func 43 [] [.fptr true [.v (.bool v1)] 0,.fptr true [.v (.int .i64 v2)] 0]],[.func 43 [] [.fptr true [.v (.bool v3)] 0,.fptr true [.v (.int .i64 v4)] 0]],[.func 43 [] [.fptr true [.v (.bool v5)] 0,.fptr true [.v (.int .i64 v6)] 0]]]] ⟨[.v (.int .i64 v7)],[]⟩:=by
  unfold image_firstError_262d at hr
  have T:=y5
  apply Spec.fn Tryz.func20 rfl
  focus (simp [Tryz.f20]<;>exact rfl)
  focus
    refine wc_ T (g:=?_)
    refine TX.unroll ?_
    repeat (first|(with_reducible first|refine mv ?_|refine TO.nil ?_)|((with_reducible first|apply TO.bin|apply TO.ia|apply TO.ld|apply TO.asg|apply TO.mv);(repeat (focus (show _ = _;first|exact k1 rfl|exact k2 rfl|(simp only [zz,y5,Nat.reduceAdd,Nat.reduceMul,Nat.reduceLeDiff,Nat.reduceEqDiff,tindexAddr,z5,Int.reduceToNat,Int.reduceLE,Int.reduceLT,Int.cast_ofNat_Int,tload,rowOf,partT,List.getElem?_map]<;>exact rfl)|exact rfl)));(with_reducible apply TO.here))|((with_reducible apply TX.region);(focus (simp only [zl]<;>exact rfl));(focus rfl);(try dsimp only))|((with_reducible apply TX.cond_true);(focus rfl);(focus (first|rfl|(simp only [z1,zn];done))))|((with_reducible apply TX.cond_false);(focus rfl);(focus (first|rfl|(simp only [z1,zn];done))))|fail)
    obtain ⟨v8,h1,hr⟩:=bs hr
    apply TO.cal (wn T) rfl goFn43 (image_refuse_c1_11f9_spec h1) rfl rfl rfl
    repeat exact sd T
    refine wa_ T (g:=?_)
    rcases ifs hr with ⟨h2,hr⟩|⟨h2,hr⟩
    · have T:=an h2 T
      refine wa_ T (g:=?_)
      cases hr
      refine ⟨.inr rfl,_,(ry T),?_⟩
      exact wk_ T [] rfl .nil
    · have T:=an h2 T
      refine wa_ T (g:=?_)
      refine TX.unroll ?_
      repeat (first|(with_reducible first|refine mv ?_|refine TO.nil ?_)|((with_reducible first|apply TO.bin|apply TO.ia|apply TO.ld|apply TO.asg|apply TO.mv);(repeat (focus (show _ = _;first|exact k1 rfl|exact k2 rfl|(simp only [zz,y5,Nat.reduceAdd,Nat.reduceMul,Nat.reduceLeDiff,Nat.reduceEqDiff,tindexAddr,z5,Int.reduceToNat,Int.reduceLE,Int.reduceLT,Int.cast_ofNat_Int,tload,rowOf,partT,List.getElem?_map,h2]<;>exact rfl)|exact rfl)));(with_reducible apply TO.here))|((with_reducible apply TX.region);(focus (simp only [zl]<;>exact rfl));(focus rfl);(try dsimp only))|((with_reducible apply TX.cond_true);(focus rfl);(focus (first|rfl|(simp only [z1,zn,h2];done))))|((with_reducible apply TX.cond_false);(focus rfl);(focus (first|rfl|(simp only [z1,zn,h2];done))))|fail)
      obtain ⟨v9,h3,hr⟩:=bs hr
      apply TO.cal (wn T) rfl goFn43 (image_refuse_c1_11f9_spec h3) rfl rfl rfl
      repeat exact sd T
      refine wa_ T (g:=?_)
      rcases ifs hr with ⟨h4,hr⟩|⟨h4,hr⟩
      · have T:=an h4 T
        refine wa_ T (g:=?_)
        cases hr
        refine ⟨.inr rfl,_,(ry T),?_⟩
        exact wk_ T [] rfl .nil
      · have T:=an h4 T
        refine wa_ T (g:=?_)
        refine TX.unroll ?_
        repeat (first|(with_reducible first|refine mv ?_|refine TO.nil ?_)|((with_reducible first|apply TO.bin|apply TO.ia|apply TO.ld|apply TO.asg|apply TO.mv);(repeat (focus (show _ = _;first|exact k1 rfl|exact k2 rfl|(simp only [zz,y5,Nat.reduceAdd,Nat.reduceMul,Nat.reduceLeDiff,Nat.reduceEqDiff,tindexAddr,z5,Int.reduceToNat,Int.reduceLE,Int.reduceLT,Int.cast_ofNat_Int,tload,rowOf,partT,List.getElem?_map,h2,h4]<;>exact rfl)|exact rfl)));(with_reducible apply TO.here))|((with_reducible apply TX.region);(focus (simp only [zl]<;>exact rfl));(focus rfl);(try dsimp only))|((with_reducible apply TX.cond_true);(focus rfl);(focus (first|rfl|(simp only [z1,zn,h2,h4];done))))|((with_reducible apply TX.cond_false);(focus rfl);(focus (first|rfl|(simp only [z1,zn,h2,h4];done))))|fail)
        obtain ⟨v10,h5,hr⟩:=bs hr
        apply TO.cal (wn T) rfl goFn43 (image_refuse_c1_11f9_spec h5) rfl rfl rfl
        repeat exact sd T
        refine wa_ T (g:=?_)
        rcases ifs hr with ⟨h6,hr⟩|⟨h6,hr⟩
        · have T:=an h6 T
          refine wa_ T (g:=?_)
          cases hr
          refine ⟨.inr rfl,_,(ry T),?_⟩
          exact wk_ T [] rfl .nil
        · have T:=an h6 T
          refine wa_ T (g:=?_)
          refine TX.unroll ?_
          refine wa_ T (g:=?_)
          cases hr
          refine ⟨.inr rfl,_,(ry T),?_⟩
          exact wk_ T [] rfl .nil
  rfl

end Go.Rex

namespace Go.Rex
open Go.Proofs
open Go Go.Rex Go.RowKit
set_option maxRecDepth 100000
set_option maxHeartbeats 200000
def y6:=an @ag26 <| an @ag27 <| an @ag3 <| an @cs78 <| an @fd29_0 <| an @fd29_1 <| an @fd29_2 <| an @so119 <| an @so26 <| an @so27 <| @zc78
theorem image_whole_c1_fa7c_spec {v1 : (List Int)} {v2 : (List (Int × Int × Int × Int))} {v3 : Int} {v4 : Int} (hr : image_whole_c1_fa7c v1 v2 v3 = some (v4)) : Spec (lim Tryz.prog) 60 [.fptr true [.list 1 (v1.map e_i),.list 4 (v2.map e_iiii),.v (.int .i64 v3)] 0] ⟨[.v (.int .i64 v4)],[]⟩:=by
  unfold image_whole_c1_fa7c at hr
  have T:=an y6 <| an @e_i.eq_1 <| @e_iiii.eq_1
  apply Spec.fn Tryz.func60 rfl
  focus (simp [Tryz.f60]<;>exact rfl)
  focus
    refine wC T (g:=?_)
    obtain ⟨⟨v5,v6⟩,h1,hr⟩:=bs hr
    try dsimp only at hr
    apply TD.cal (wn T) rfl goFn23 (image_refuse_spec h1) rfl rfl rfl
    repeat exact sd T
    refine wC T (g:=?_)
    obtain ⟨⟨v7,v8⟩,h2,hr⟩:=bs hr
    try dsimp only at hr
    apply TD.cal (wn T) rfl goFn23 (image_refuse_spec h2) rfl rfl rfl
    repeat exact sd T
    refine wA T (g:=?_)
    obtain ⟨⟨v9,v10⟩,h3,hr⟩:=bs hr
    try dsimp only at hr
    apply TD.cal (wn T) rfl goFn26 (image_within_spec h3) rfl rfl rfl
    repeat exact sd T
    refine we_ T (g:=?_)
    obtain ⟨v11,h4,hr⟩:=bs hr
    apply TD.cal (wn T) rfl goFn20 (image_firstError_262d_spec h4) rfl rfl rfl
    repeat exact sd T
    refine wa_ T (g:=?_)
    cases hr
    refine ⟨.inr rfl,_,(ry T),?_⟩
    exact wr [] rfl .nil
  rfl

end Go.Rex

namespace Go.Rex
open Go.Proofs
open Go Go.Rex Go.RowKit
set_option maxRecDepth 100000
set_option maxHeartbeats 200000
def y7:=an @ag78 <| an @cs78 <| an @ok78 <| an @so119 <| an @wi64_0a1 <| @wi64_1a1
theorem image_firstError_cd3e_spec {v1 : (List Int)} {v2 : (List (Int × Int × Int × Int))} {v3 : Int} {v4 : Bool} {v5 : Int} {v6 : Int} (hr : image_firstError_cd3e v1 v2 v3 v4 v5 = some (v6)) : Spec (lim Tryz.prog) 20 [.list 1 [[.func 60 [] [.fptr true [.list 1 (v1.map e_i),.list 4 (v2.map e_iiii),.v (.int .i64 v3)] 0]],[.func 43 [] [.fptr true [.v (.bool v4)] 0,.fptr true [.v (.int .i64 v5)] 0]]]] ⟨[.v (.int .i64 v6)],[]⟩:=by
  unfold image_firstError_cd3e at hr
  have T:=an y7 <| an @e_i.eq_1 <| @e_iiii.eq_1
  apply Spec.fn Tryz.func20 rfl
  focus (simp [Tryz.f20]<;>exact rfl)
  focus
    refine wc_ T (g:=?_)
    refine TX.unroll ?_
    repeat (first|(with_reducible first|refine mv ?_|refine TO.nil ?_)|((with_reducible first|apply TO.bin|apply TO.ia|apply TO.ld|apply TO.asg|apply TO.mv);(repeat (focus (show _ = _;first|exact k1 rfl|exact k2 rfl|(simp only [zz,y7,e_i,e_iiii,Nat.reduceAdd,Nat.reduceMul,Nat.reduceLeDiff,Nat.reduceEqDiff,tindexAddr,z5,Int.reduceToNat,Int.reduceLE,Int.reduceLT,Int.cast_ofNat_Int,tload,rowOf,partT,List.getElem?_map]<;>exact rfl)|exact rfl)));(with_reducible apply TO.here))|((with_reducible apply TX.region);(focus (simp only [zl]<;>exact rfl));(focus rfl);(try dsimp only))|((with_reducible apply TX.cond_true);(focus rfl);(focus (first|rfl|(simp only [z1,zn];done))))|((with_reducible apply TX.cond_false);(focus rfl);(focus (first|rfl|(simp only [z1,zn];done))))|fail)
    obtain ⟨v7,h1,hr⟩:=bs hr
    apply TO.cal (wn T) rfl goFn60 (image_whole_c1_fa7c_spec h1) rfl rfl rfl
    repeat exact sd T
    refine wa_ T (g:=?_)
    rcases ifs hr with ⟨h2,hr⟩|⟨h2,hr⟩
    · have T:=an h2 T
      refine wa_ T (g:=?_)
      cases hr
      refine ⟨.inr rfl,_,(ry T),?_⟩
      exact wk_ T [] rfl .nil
    · have T:=an h2 T
      refine wa_ T (g:=?_)
      refine TX.unroll ?_
      repeat (first|(with_reducible first|refine mv ?_|refine TO.nil ?_)|((with_reducible first|apply TO.bin|apply TO.ia|apply TO.ld|apply TO.asg|apply TO.mv);(repeat (focus (show _ = _;first|exact k1 rfl|exact k2 rfl|(simp only [zz,y7,e_i,e_iiii,Nat.reduceAdd,Nat.reduceMul,Nat.reduceLeDiff,Nat.reduceEqDiff,tindexAddr,z5,Int.reduceToNat,Int.reduceLE,Int.reduceLT,Int.cast_ofNat_Int,tload,rowOf,partT,List.getElem?_map,h2]<;>exact rfl)|exact rfl)));(with_reducible apply TO.here))|((with_reducible apply TX.region);(focus (simp only [zl]<;>exact rfl));(focus rfl);(try dsimp only))|((with_reducible apply TX.cond_true);(focus rfl);(focus (first|rfl|(simp only [z1,zn,h2];done))))|((with_reducible apply TX.cond_false);(focus rfl);(focus (first|rfl|(simp only [z1,zn,h2];done))))|fail)
      obtain ⟨v8,h3,hr⟩:=bs hr
      apply TO.cal (wn T) rfl goFn43 (image_refuse_c1_11f9_spec h3) rfl rfl rfl
      repeat exact sd T
      refine wa_ T (g:=?_)
      rcases ifs hr with ⟨h4,hr⟩|⟨h4,hr⟩
      · have T:=an h4 T
        refine wa_ T (g:=?_)
        cases hr
        refine ⟨.inr rfl,_,(ry T),?_⟩
        exact wk_ T [] rfl .nil
      · have T:=an h4 T
        refine wa_ T (g:=?_)
        refine TX.unroll ?_
        refine wa_ T (g:=?_)
        cases hr
        refine ⟨.inr rfl,_,(ry T),?_⟩
        exact wk_ T [] rfl .nil
  rfl

end Go.Rex

namespace Go.Rex
open Go.Proofs
open Go Go.Rex Go.RowKit
set_option maxRecDepth 100000
set_option maxHeartbeats 1000000
def y8:=an @ag22 <| an @ag29 <| an @ag3 <| an @cs29 <| an @cs78 <| an @fd29_2 <| an @ok29 <| an @so119 <| an @so22 <| an @zc29 <| an @zc78 <| @wi64_0a1
theorem image_listed_c1_26c7_spec {v1 : (List ((List Int) × (List (Int × Int × Int × Int)) × Int))} {v2 : Int} (hr : image_listed_c1_26c7 v1 = some (v2)) : Spec (lim Tryz.prog) 42 [.fptr true [.list 3 (v1.map e_Li_Liiii_i)] 0] ⟨[.v (.int .i64 v2)],[]⟩:=by
  unfold image_listed_c1_26c7 at hr
  have T:=an y8 <| @e_Li_Liiii_i.eq_1
  apply Spec.fn Tryz.func42 rfl
  focus (simp [Tryz.f42]<;>exact rfl)
  focus
    refine wC T (g:=?_)
    rcases ifs hr with ⟨h1,hr⟩|⟨h1,hr⟩
    · have T:=an h1 T
      refine wa_ T (g:=?_)
      cases hr
      refine ⟨.inr rfl,_,(ry T),?_⟩
      exact wk_ T [] rfl .nil
    · have T:=an h1 T
      refine wC T (g:=?_)
      obtain ⟨v41,h26,hr⟩:=bs hr
      refine TX.loopE (step:=image_listed_c1_26c7_l1 v1) (x:=0) h26 (fun v3=>⟨.fptr true [.list 3 (v1.map e_Li_Liiii_i)] 0 :: .junk :: .junk :: .junk :: .junk :: .junk :: .junk :: .junk :: .junk :: .list 3 (v1.map e_Li_Liiii_i) :: .v (.int .i64 (v1.length : Int)) :: .v (.int .i64 v3) :: .junk :: .junk :: .junk :: .junk :: .junk :: .junk :: .junk :: .junk :: .junk :: .junk :: .junk :: .junk :: .junk :: .junk :: .junk :: .junk :: .junk :: .junk :: .junk :: .junk :: .junk :: .junk :: .junk :: .junk :: .junk :: .junk :: .junk :: [],[]⟩) (fun e=>match e with|(.inl v22)=>(.ret,⟨.junk :: .v (.int .i64 v22) :: .junk :: .junk :: .junk :: .junk :: .junk :: .junk :: .junk :: .junk :: .junk :: .junk :: .junk :: .junk :: .junk :: .junk :: .junk :: .junk :: .junk :: .junk :: .junk :: .junk :: .junk :: .junk :: .junk :: .junk :: .junk :: .junk :: .junk :: .junk :: .junk :: .junk :: .junk :: .junk :: .junk :: .junk :: .junk :: .junk :: .junk :: [],[]⟩)|(.inr _)=>(.exit 0,⟨.junk :: .junk :: .junk :: .junk :: .junk :: .junk :: .junk :: .junk :: .junk :: .junk :: .junk :: .junk :: .junk :: .junk :: .junk :: .junk :: .junk :: .junk :: .junk :: .junk :: .junk :: .junk :: .junk :: .junk :: .junk :: .junk :: .junk :: .junk :: .junk :: .junk :: .junk :: .junk :: .junk :: .junk :: .junk :: .junk :: .junk :: .junk :: .junk :: [],[]⟩)) ?_ ?_ ?_ ?_
      · rintro v3 v0 hr
        dsimp only [image_listed_c1_26c7_l1] at hr
        try dsimp only
        refine wa_ T (g:=?_)
        rcases ifs hr with ⟨h14,hr⟩|⟨h14,hr⟩
        · have T:=an h14 T
          refine wa_ T (g:=?_)
          obtain ⟨⟨v23,v24,v25⟩,h15,hr⟩:=bs hr
          try dsimp only at hr
          have T:=an (gx e_Li_Liiii_i h15) T
          refine wA T (g:=?_)
          rcases ifs hr with ⟨h16,hr⟩|⟨h16,hr⟩
          · have T:=an h16 T
            refine wA T (g:=?_)
            obtain ⟨⟨v26,v27,v28⟩,h17,hr⟩:=bs hr
            try dsimp only at hr
            have T:=an (gx e_Li_Liiii_i h17) T
            refine wA T (g:=?_)
            obtain ⟨⟨v29,v30,v31⟩,h18,hr⟩:=bs hr
            try dsimp only at hr
            apply TO.cal (wn T) rfl goFn32 (image_whole_spec h18) rfl rfl rfl
            repeat exact sd T
            refine wa_ T (g:=?_)
            obtain ⟨⟨v32,v33⟩,h19,hr⟩:=bs hr
            try dsimp only at hr
            apply TO.cal (wn T) rfl goFn23 (image_refuse_spec h19) rfl rfl rfl
            repeat exact sd T
            refine we_ T (g:=?_)
            obtain ⟨v34,h20,hr⟩:=bs hr
            apply TO.cal (wn T) rfl goFn20 (image_firstError_cd3e_spec h20) rfl rfl rfl
            repeat exact sd T
            refine wa_ T (g:=?_)
            rcases ifs hr with ⟨h21,hr⟩|⟨h21,hr⟩
            · have T:=an h21 T
              refine wa_ T (g:=?_)
              cases hr
              refine ⟨rfl,?_⟩
              exact wk_ T [] rfl .nil
            · have T:=an h21 T
              refine wa_ T (g:=?_)
              cases hr
              refine ⟨rfl,?_⟩
              exact wk_ T [] rfl .nil
          · have T:=an h16 T
            refine wA T (g:=?_)
            obtain ⟨⟨v35,v36,v37⟩,h22,hr⟩:=bs hr
            try dsimp only at hr
            apply TO.cal (wn T) rfl goFn32 (image_whole_spec h22) rfl rfl rfl
            repeat exact sd T
            refine wa_ T (g:=?_)
            obtain ⟨⟨v38,v39⟩,h23,hr⟩:=bs hr
            try dsimp only at hr
            apply TO.cal (wn T) rfl goFn23 (image_refuse_spec h23) rfl rfl rfl
            repeat exact sd T
            refine we_ T (g:=?_)
            obtain ⟨v40,h24,hr⟩:=bs hr
            apply TO.cal (wn T) rfl goFn20 (image_firstError_cd3e_spec h24) rfl rfl rfl
            repeat exact sd T
            refine wa_ T (g:=?_)
            rcases ifs hr with ⟨h25,hr⟩|⟨h25,hr⟩
            · have T:=an h25 T
              refine wa_ T (g:=?_)
              cases hr
              refine ⟨rfl,?_⟩
              exact wk_ T [] rfl .nil
            · have T:=an h25 T
              refine wa_ T (g:=?_)
              cases hr
              refine ⟨rfl,?_⟩
              exact wk_ T [] rfl .nil
        · have T:=an h14 T
          refine wa_ T (g:=?_)
          cases hr
          refine ⟨rfl,?_⟩
          exact wk_ T [] rfl .nil
      · intro e h;rcases e with _|e<;>cases h
      · try dsimp only
        rcases v41 with v42|_
        · try dsimp only at hr
          try dsimp only
          refine wa_ T (g:=?_)
          cases hr
          refine ⟨.inr rfl,_,(ry T),?_⟩
          exact wk_ T [] rfl .nil
        · try dsimp only at hr
          try dsimp only
          refine wa_ T (g:=?_)
          cases hr
          refine ⟨.inr rfl,_,(ry T),?_⟩
          exact wk_ T [] rfl .nil
      · try dsimp only
        exact wk_ T [] rfl .nil
  rfl

end Go.Rex

namespace Go.Rex
open Go.Proofs
open Go Go.Rex Go.RowKit
set_option maxRecDepth 100000
set_option maxHeartbeats 200000
def y9:=an @ag78 <| an @cs78 <| an @ok78 <| an @so119 <| an @wi64_0a1 <| an @wi64_1a1 <| @wi64_2a1
theorem image_firstError_30b3_spec {v1 : (List ((List Int) × (List (Int × Int × Int × Int)) × Int))} {v2 : Bool} {v3 : Int} {v4 : Bool} {v5 : Int} {v6 : Int} (hr : image_firstError_30b3 v1 v2 v3 v4 v5 = some (v6)) : Spec (lim Tryz.prog) 20 [.list 1 [[.func 42 [] [.fptr true [.list 3 (v1.map e_Li_Liiii_i)] 0]],[.func 43 [] [.fptr true [.v (.bool v2)] 0,.fptr true [.v (.int .i64 v3)] 0]],[.func 43 [] [.fptr true [.v (.bool v4)] 0,.fptr true [.v (.int .i64 v5)] 0]]]] ⟨[.v (.int .i64 v6)],[]⟩:=by
  unfold image_firstError_30b3 at hr
  have T:=an y9 <| @e_Li_Liiii_i.eq_1
  apply Spec.fn Tryz.func20 rfl
  focus (simp [Tryz.f20]<;>exact rfl)
  focus
    refine wc_ T (g:=?_)
    refine TX.unroll ?_
    repeat (first|(with_reducible first|refine mv ?_|refine TO.nil ?_)|((with_reducible first|apply TO.bin|apply TO.ia|apply TO.ld|apply TO.asg|apply TO.mv);(repeat (focus (show _ = _;first|exact k1 rfl|exact k2 rfl|(simp only [zz,y9,e_Li_Liiii_i,Nat.reduceAdd,Nat.reduceMul,Nat.reduceLeDiff,Nat.reduceEqDiff,tindexAddr,z5,Int.reduceToNat,Int.reduceLE,Int.reduceLT,Int.cast_ofNat_Int,tload,rowOf,partT,List.getElem?_map]<;>exact rfl)|exact rfl)));(with_reducible apply TO.here))|((with_reducible apply TX.region);(focus (simp only [zl]<;>exact rfl));(focus rfl);(try dsimp only))|((with_reducible apply TX.cond_true);(focus rfl);(focus (first|rfl|(simp only [z1,zn];done))))|((with_reducible apply TX.cond_false);(focus rfl);(focus (first|rfl|(simp only [z1,zn];done))))|fail)
    obtain ⟨v7,h1,hr⟩:=bs hr
    apply TO.cal (wn T) rfl goFn42 (image_listed_c1_26c7_spec h1) rfl rfl rfl
    repeat exact sd T
    refine wa_ T (g:=?_)
    rcases ifs hr with ⟨h2,hr⟩|⟨h2,hr⟩
    · have T:=an h2 T
      refine wa_ T (g:=?_)
      cases hr
      refine ⟨.inr rfl,_,(ry T),?_⟩
      exact wk_ T [] rfl .nil
    · have T:=an h2 T
      refine wa_ T (g:=?_)
      refine TX.unroll ?_
      repeat (first|(with_reducible first|refine mv ?_|refine TO.nil ?_)|((with_reducible first|apply TO.bin|apply TO.ia|apply TO.ld|apply TO.asg|apply TO.mv);(repeat (focus (show _ = _;first|exact k1 rfl|exact k2 rfl|(simp only [zz,y9,e_Li_Liiii_i,Nat.reduceAdd,Nat.reduceMul,Nat.reduceLeDiff,Nat.reduceEqDiff,tindexAddr,z5,Int.reduceToNat,Int.reduceLE,Int.reduceLT,Int.cast_ofNat_Int,tload,rowOf,partT,List.getElem?_map,h2]<;>exact rfl)|exact rfl)));(with_reducible apply TO.here))|((with_reducible apply TX.region);(focus (simp only [zl]<;>exact rfl));(focus rfl);(try dsimp only))|((with_reducible apply TX.cond_true);(focus rfl);(focus (first|rfl|(simp only [z1,zn,h2];done))))|((with_reducible apply TX.cond_false);(focus rfl);(focus (first|rfl|(simp only [z1,zn,h2];done))))|fail)
      obtain ⟨v8,h3,hr⟩:=bs hr
      apply TO.cal (wn T) rfl goFn43 (image_refuse_c1_11f9_spec h3) rfl rfl rfl
      repeat exact sd T
      refine wa_ T (g:=?_)
      rcases ifs hr with ⟨h4,hr⟩|⟨h4,hr⟩
      · have T:=an h4 T
        refine wa_ T (g:=?_)
        cases hr
        refine ⟨.inr rfl,_,(ry T),?_⟩
        exact wk_ T [] rfl .nil
      · have T:=an h4 T
        refine wa_ T (g:=?_)
        refine TX.unroll ?_
        repeat (first|(with_reducible first|refine mv ?_|refine TO.nil ?_)|((with_reducible first|apply TO.bin|apply TO.ia|apply TO.ld|apply TO.asg|apply TO.mv);(repeat (focus (show _ = _;first|exact k1 rfl|exact k2 rfl|(simp only [zz,y9,e_Li_Liiii_i,Nat.reduceAdd,Nat.reduceMul,Nat.reduceLeDiff,Nat.reduceEqDiff,tindexAddr,z5,Int.reduceToNat,Int.reduceLE,Int.reduceLT,Int.cast_ofNat_Int,tload,rowOf,partT,List.getElem?_map,h2,h4]<;>exact rfl)|exact rfl)));(with_reducible apply TO.here))|((with_reducible apply TX.region);(focus (simp only [zl]<;>exact rfl));(focus rfl);(try dsimp only))|((with_reducible apply TX.cond_true);(focus rfl);(focus (first|rfl|(simp only [z1,zn,h2,h4];done))))|((with_reducible apply TX.cond_false);(focus rfl);(focus (first|rfl|(simp only [z1,zn,h2,h4];done))))|fail)
        obtain ⟨v9,h5,hr⟩:=bs hr
        apply TO.cal (wn T) rfl goFn43 (image_refuse_c1_11f9_spec h5) rfl rfl rfl
        repeat exact sd T
        refine wa_ T (g:=?_)
        rcases ifs hr with ⟨h6,hr⟩|⟨h6,hr⟩
        · have T:=an h6 T
          refine wa_ T (g:=?_)
          cases hr
          refine ⟨.inr rfl,_,(ry T),?_⟩
          exact wk_ T [] rfl .nil
        · have T:=an h6 T
          refine wa_ T (g:=?_)
          refine TX.unroll ?_
          refine wa_ T (g:=?_)
          cases hr
          refine ⟨.inr rfl,_,(ry T),?_⟩
          exact wk_ T [] rfl .nil
  rfl

end Go.Rex

namespace Go.Rex
open Go.Proofs
open Go Go.Rex Go.RowKit
set_option maxRecDepth 100000
set_option maxHeartbeats 200000
def y10:=@ag3
theorem image_root_c1_d3d3_spec {v1 : Int} {v2 : Int} {v3 : Bool} (hr : image_root_c1_d3d3 v1 v2 = some (v3)) : Spec (lim Tryz.prog) 104 [.v (.int .i64 v1),.fptr true [.v (.int .i64 v2)] 0] ⟨[.v (.bool v3)],[]⟩:=by
  unfold image_root_c1_d3d3 at hr
  have T:=y10
  apply Spec.fn Tryz.func104 rfl
  focus (simp [Tryz.f104]<;>exact rfl)
  focus
    refine wA T (g:=?_)
    cases hr
    refine ⟨.inr rfl,_,(ry T),?_⟩
    exact wr [] rfl .nil
  rfl

end Go.Rex

namespace Go.Rex
open Go.Proofs
open Go Go.Rex Go.RowKit
set_option maxRecDepth 100000
set_option maxHeartbeats 200000
def y11:=an @un215 <| @un3
theorem sort_Search_5a34_spec {v1 : Int} {v2 : Int} {v3 : Int} (hr : sort_Search_5a34 v1 v2 = some (v3)) : Spec (lim Tryz.prog) 103 [.v (.int .i64 v1),.func 104 [] [.fptr true [.v (.int .i64 v2)] 0]] ⟨[.v (.int .i64 v3)],[]⟩:=by
  unfold sort_Search_5a34 at hr
  have T:=y11
  apply Spec.fn Tryz.func103 rfl
  focus (simp [Tryz.f103]<;>exact rfl)
  focus
    refine wa_ T (g:=?_)
    obtain ⟨v11,h9,hr⟩:=bs hr
    refine TX.loopE (step:=sort_Search_5a34_l1 v2) (x:=(0,v1)) h9 (fun (v4,v5)=>⟨.junk :: .func 104 [] [.fptr true [.v (.int .i64 v2)] 0] :: .junk :: .junk :: .junk :: .v (.int .i64 v4) :: .v (.int .i64 v5) :: .junk :: .junk :: .junk :: .junk :: .junk :: .junk :: .junk :: .junk :: .junk :: .junk :: .junk :: .junk :: .junk :: .junk :: .junk :: .junk :: .junk :: .junk :: .junk :: [],[]⟩) (fun v8=>(.exit 0,⟨.junk :: .junk :: .junk :: .junk :: .junk :: .v (.int .i64 v8) :: .junk :: .junk :: .junk :: .junk :: .junk :: .junk :: .junk :: .junk :: .junk :: .junk :: .junk :: .junk :: .junk :: .junk :: .junk :: .junk :: .junk :: .junk :: .junk :: .junk :: [],[]⟩)) ?_ ?_ ?_ ?_
    · rintro ⟨v4,v5⟩ v0 hr
      dsimp only [sort_Search_5a34_l1] at hr
      try dsimp only
      refine wa_ T (g:=?_)
      rcases ifs hr with ⟨h5,hr⟩|⟨h5,hr⟩
      · have T:=an h5 T
        refine wa_ T (g:=?_)
        apply TO.pop1 (wn T) (cvt_int_int un3 un215 rfl)
        repeat exact sd T
        refine wa_ T (g:=?_)
        obtain ⟨v9,h6,hr⟩:=bs hr
        apply TO.pop1 (wn T) (pop_shift rfl rfl (by decide) (h6))
        repeat exact sd T
        refine wa_ T (g:=?_)
        apply TO.pop1 (wn T) (cvt_int_int un215 un3 rfl)
        repeat exact sd T
        refine wa_ T (g:=?_)
        obtain ⟨v10,h7,hr⟩:=bs hr
        apply TO.cal (wn T) rfl goFn104 (image_root_c1_d3d3_spec h7) rfl rfl rfl
        repeat exact sd T
        refine wa_ T (g:=?_)
        apply TO.pop1 (wn T) (pop_not rfl)
        repeat exact sd T
        refine wa_ T (g:=?_)
        rcases ifs hr with ⟨h8,hr⟩|⟨h8,hr⟩
        · have T:=an h8 T
          refine wa_ T (g:=?_)
          cases hr
          refine ⟨rfl,?_⟩
          exact wk_ T [] rfl .nil
        · have T:=an h8 T
          refine wa_ T (g:=?_)
          cases hr
          refine ⟨rfl,?_⟩
          exact wk_ T [] rfl .nil
      · have T:=an h5 T
        refine wa_ T (g:=?_)
        cases hr
        refine ⟨rfl,?_⟩
        exact wk_ T [] rfl .nil
    · intro e h;cases h
    · try dsimp only
      refine wa_ T (g:=?_)
      cases hr
      refine ⟨.inr rfl,_,(ry T),?_⟩
      exact wr [] rfl .nil
    · try dsimp only
      exact wr [] rfl .nil
  rfl

end Go.Rex

namespace Go.Rex
open Go.Proofs
open Go Go.Rex Go.RowKit
set_option maxRecDepth 100000
set_option maxHeartbeats 200000
def y12:=an @ag3 <| an @ag31 <| an @cs31 <| an @ok31 <| an @st31 <| @zc31
theorem image_root_spec {v1 : Int} {v2 : Int} {v3 : Int} (hr : image_root v1 = some (v2,v3)) : Spec (lim Tryz.prog) 72 [.v (.int .i64 v1)] ⟨[.agg [.v (.int .i64 v2),.v (.int .i64 v3)]],[]⟩:=by
  unfold image_root at hr
  have T:=y12
  apply Spec.fn Tryz.func72 rfl
  focus (simp [Tryz.f72]<;>exact rfl)
  focus
    refine wb_ T (g:=?_)
    obtain ⟨v4,h1,hr⟩:=bs hr
    apply TO.cal (wn T) rfl goFn103 (sort_Search_5a34_spec h1) rfl rfl rfl
    repeat exact sd T
    refine wA T (g:=?_)
    rcases ifs hr with ⟨h2,hr⟩|⟨h2,hr⟩
    · have T:=an h2 T
      refine wa_ T (g:=?_)
      cases hr
      refine ⟨.inr rfl,_,(ry T),?_⟩
      exact wk_ T [] rfl .nil
    · have T:=an h2 T
      refine wa_ T (g:=?_)
      cases hr
      refine ⟨.inr rfl,_,(ry T),?_⟩
      exact wk_ T [] rfl .nil
  rfl

end Go.Rex

namespace Go.Rex
open Go.Proofs
open Go Go.Rex Go.RowKit
set_option maxRecDepth 100000
set_option maxHeartbeats 200000
def y13:=an @ag3 <| an @ag31 <| an @cs31 <| an @fd29_2 <| an @ok31 <| @zc31
theorem image_lengthOf_spec {v1 : (List Int)} {v2 : (List (Int × Int × Int × Int))} {v3 : Int} {v4 : Int} {v5 : Int} (hr : image_lengthOf v1 v2 v3 = some (v4,v5)) : Spec (lim Tryz.prog) 45 [.agg [.list 1 (v1.map e_i),.list 4 (v2.map e_iiii),.v (.int .i64 v3)]] ⟨[.agg [.v (.int .i64 v4),.v (.int .i64 v5)]],[]⟩:=by
  unfold image_lengthOf at hr
  have T:=an y13 <| an @e_i.eq_1 <| @e_iiii.eq_1
  apply Spec.fn Tryz.func45 rfl
  focus (simp [Tryz.f45]<;>exact rfl)
  focus
    refine wB T (g:=?_)
    obtain ⟨⟨v6,v7⟩,h1,hr⟩:=bs hr
    try dsimp only at hr
    apply TO.cal (wn T) rfl goFn72 (image_root_spec h1) rfl rfl rfl
    repeat exact sd T
    refine wa_ T (g:=?_)
    cases hr
    refine ⟨.inr rfl,_,(ry T),?_⟩
    exact wr [] rfl .nil
  rfl

end Go.Rex

namespace Go.Rex
open Go.Proofs
open Go Go.Rex Go.RowKit
set_option maxRecDepth 100000
set_option maxHeartbeats 200000
def y14:=an @ag3 <| an @ag31 <| an @cs31 <| an @fd31_0 <| an @fd31_1 <| an @ok31 <| an @st31 <| @zc31
theorem image_scaled_spec {v1 : Int} {v2 : Int} {v3 : Int} {v4 : Int} {v5 : Int} {v6 : Int} (hr : image_scaled v1 v2 v3 v4 = some (v5,v6)) : Spec (lim Tryz.prog) 44 [.agg [.v (.int .i64 v1),.v (.int .i64 v2)],.v (.int .i64 v3),.v (.int .i64 v4)] ⟨[.agg [.v (.int .i64 v5),.v (.int .i64 v6)]],[]⟩:=by
  unfold image_scaled at hr
  have T:=y14
  apply Spec.fn Tryz.func44 rfl
  focus (simp [Tryz.f44]<;>exact rfl)
  focus
    refine wB T (g:=?_)
    by_cases h1 : v4 = 0
    · rw [if_pos h1] at hr
      cases hr
    · rw [if_neg h1] at hr
      have T:=an h1 T
      refine wA T (g:=?_)
      cases hr
      refine ⟨.inr rfl,_,(ry T),?_⟩
      exact wr [] rfl .nil
  rfl

end Go.Rex

namespace Go.Rex
open Go.Proofs
open Go Go.Rex Go.RowKit
set_option maxRecDepth 100000
set_option maxHeartbeats 200000
def y15:=an @ag29 <| an @ag31 <| an @cs29 <| an @cs31 <| an @ok29 <| an @ok31 <| @zc31
theorem image_delayOf_spec {v1 : (List Int)} {v2 : (List (Int × Int × Int × Int))} {v3 : Int} {v4 : Int} {v5 : Int} {v6 : Int} (hr : image_delayOf v1 v2 v3 v4 = some (v5,v6)) : Spec (lim Tryz.prog) 24 [.agg [.list 1 (v1.map e_i),.list 4 (v2.map e_iiii),.v (.int .i64 v3)],.v (.int .i64 v4)] ⟨[.agg [.v (.int .i64 v5),.v (.int .i64 v6)]],[]⟩:=by
  unfold image_delayOf at hr
  have T:=an y15 <| an @e_i.eq_1 <| @e_iiii.eq_1
  apply Spec.fn Tryz.func24 rfl
  focus (simp [Tryz.f24]<;>exact rfl)
  focus
    refine wB T (g:=?_)
    obtain ⟨⟨v7,v8⟩,h1,hr⟩:=bs hr
    try dsimp only at hr
    apply TO.cal (wn T) rfl goFn45 (image_lengthOf_spec h1) rfl rfl rfl
    repeat exact sd T
    refine wa_ T (g:=?_)
    obtain ⟨⟨v9,v10⟩,h2,hr⟩:=bs hr
    try dsimp only at hr
    apply TO.cal (wn T) rfl goFn44 (image_scaled_spec h2) rfl rfl rfl
    repeat exact sd T
    refine wa_ T (g:=?_)
    cases hr
    refine ⟨.inr rfl,_,(ry T),?_⟩
    exact wr [] rfl .nil
  rfl

end Go.Rex

namespace Go.Rex
open Go.Proofs
open Go Go.Rex Go.RowKit
set_option maxRecDepth 100000
set_option maxHeartbeats 200000
def y16:=an @ag29 <| an @ag3 <| an @ag31 <| an @cs29 <| an @cs31 <| an @cs78 <| an @fd31_0 <| an @fd31_1 <| an @ok29 <| an @ok31 <| an @so119 <| an @so22 <| an @st31 <| an @zc31 <| @zc78
theorem image_GapOf_spec {v1 : (List ((List Int) × (List (Int × Int × Int × Int)) × Int))} {v2 : Int} {v3 : Int} {v4 : Int} {v5 : Int} (hr : image_GapOf v1 v2 = some (v3,v4,v5)) : Spec (lim Tryz.prog) 5 [.list 3 (v1.map e_Li_Liiii_i),.v (.int .i64 v2)] ⟨[.tuple [.agg [.v (.int .i64 v3),.v (.int .i64 v4)],.v (.int .i64 v5)]],[]⟩:=by
  unfold image_GapOf at hr
  have T:=an y16 <| @e_Li_Liiii_i.eq_1
  apply Spec.fn Tryz.func5 rfl
  focus (simp [Tryz.f5]<;>exact rfl)
  focus
    refine wa_ T (g:=?_)
    obtain ⟨v6,h1,hr⟩:=bs hr
    apply TO.cal (wn T) rfl goFn21 (image_listed_spec h1) rfl rfl rfl
    repeat exact sd T
    refine wa_ T (g:=?_)
    obtain ⟨⟨v7,v8⟩,h2,hr⟩:=bs hr
    try dsimp only at hr
    apply TO.cal (wn T) rfl goFn22 (image_audible_spec h2) rfl rfl rfl
    repeat exact sd T
    refine wc_ T (g:=?_)
    obtain ⟨⟨v9,v10⟩,h3,hr⟩:=bs hr
    try dsimp only at hr
    apply TO.cal (wn T) rfl goFn23 (image_refuse_spec h3) rfl rfl rfl
    repeat exact sd T
    refine we_ T (g:=?_)
    obtain ⟨v11,h4,hr⟩:=bs hr
    apply TO.cal (wn T) rfl goFn20 (image_firstError_30b3_spec h4) rfl rfl rfl
    repeat exact sd T
    refine wa_ T (g:=?_)
    rcases ifs hr with ⟨h5,hr⟩|⟨h5,hr⟩
    · have T:=an h5 T
      refine wa_ T (g:=?_)
      cases hr
      refine ⟨.inr rfl,_,(ry T),?_⟩
      exact wk_ T [] rfl .nil
    · have T:=an h5 T
      refine wa_ T (g:=?_)
      obtain ⟨⟨v12,v13,v14⟩,h6,hr⟩:=bs hr
      try dsimp only at hr
      have T:=an (gx e_Li_Liiii_i h6) T
      refine wA T (g:=?_)
      obtain ⟨⟨v15,v16⟩,h7,hr⟩:=bs hr
      try dsimp only at hr
      apply TD.cal (wn T) rfl goFn24 (image_delayOf_spec h7) rfl rfl rfl
      repeat exact sd T
      refine wa_ T (g:=?_)
      obtain ⟨⟨v17,v18,v19⟩,h8,hr⟩:=bs hr
      try dsimp only at hr
      have T:=an (gx e_Li_Liiii_i h8) T
      refine wA T (g:=?_)
      obtain ⟨⟨v20,v21⟩,h9,hr⟩:=bs hr
      try dsimp only at hr
      apply TD.cal (wn T) rfl goFn24 (image_delayOf_spec h9) rfl rfl rfl
      repeat exact sd T
      refine wA T (g:=?_)
      apply TO.pop1 (wn T) (pop_max rfl rfl)
      repeat exact sd T
      refine wA T (g:=?_)
      cases hr
      refine ⟨.inr rfl,_,(ry T),?_⟩
      exact wk_ T [] rfl .nil
  rfl

end Go.Rex

namespace Go.Rex
open Go.Proofs
open Go Go.Rex Go.RowKit
set_option maxRecDepth 100000
set_option maxHeartbeats 1000000
def y17:=an @ag29 <| an @ag3 <| an @ag36 <| an @ar36 <| an @cs29 <| an @cs3 <| an @cs31 <| an @cs36 <| an @cs78 <| an @fd31_0 <| an @fd31_1 <| an @ok29 <| an @ok3 <| an @ok31 <| an @ok36 <| an @so119 <| an @so22 <| an @so36 <| an @st36 <| an @zc29 <| an @zc31 <| an @zc36 <| an @zc78 <| @wi64_0a1
theorem image_Arrived_spec {v1 : (List ((List Int) × (List (Int × Int × Int × Int)) × Int))} {v2 : Int} {v3 : Int} {v4 : Int} {v5 : Int} {v6 : Int} (hr : image_Arrived v1 v2 v3 = some (v4,v5,v6)) : Spec (lim Tryz.prog) 7 [.list 3 (v1.map e_Li_Liiii_i),.v (.int .i64 v2),.v (.int .i64 v3)] ⟨[.tuple [.agg [.v (.int .i64 v4),.v (.int .i64 v5)],.v (.int .i64 v6)]],[]⟩:=by
  unfold image_Arrived at hr
  have T:=an y17 <| @e_Li_Liiii_i.eq_1
  apply Spec.fn Tryz.func7 rfl
  focus (simp [Tryz.f7]<;>exact rfl)
  focus
    refine wa_ T (g:=?_)
    obtain ⟨v7,h1,hr⟩:=bs hr
    apply TO.cal (wn T) rfl goFn21 (image_listed_spec h1) rfl rfl rfl
    repeat exact sd T
    refine wa_ T (g:=?_)
    obtain ⟨⟨v8,v9⟩,h2,hr⟩:=bs hr
    try dsimp only at hr
    apply TO.cal (wn T) rfl goFn22 (image_audible_spec h2) rfl rfl rfl
    repeat exact sd T
    refine wa_ T (g:=?_)
    obtain ⟨⟨v10,v11⟩,h3,hr⟩:=bs hr
    try dsimp only at hr
    apply TO.cal (wn T) rfl goFn26 (image_within_spec h3) rfl rfl rfl
    repeat exact sd T
    refine we_ T (g:=?_)
    obtain ⟨v12,h4,hr⟩:=bs hr
    apply TO.cal (wn T) rfl goFn20 (image_firstError_30b3_spec h4) rfl rfl rfl
    repeat exact sd T
    refine wa_ T (g:=?_)
    rcases ifs hr with ⟨h5,hr⟩|⟨h5,hr⟩
    · have T:=an h5 T
      refine wa_ T (g:=?_)
      cases hr
      refine ⟨.inr rfl,_,(ry T),?_⟩
      exact wk_ T [] rfl .nil
    · have T:=an h5 T
      refine wc_ T (g:=?_)
      obtain ⟨⟨v28,v29⟩,h18,hr⟩:=bs hr
      try dsimp only at hr
      refine TX.loopE (step:=image_Arrived_l1 v1 v2 v3) (x:=(0,0,0)) h18 (fun (v13,v14,v15)=>⟨.junk :: .v (.int .i64 v2) :: .v (.int .i64 v3) :: .junk :: .junk :: .junk :: .lptr 0 0 0 :: .junk :: .junk :: .lptr 1 0 0 :: .junk :: .junk :: .junk :: .junk :: .junk :: .junk :: .junk :: .junk :: .junk :: .junk :: .junk :: .junk :: .junk :: .junk :: .junk :: .list 3 (v1.map e_Li_Liiii_i) :: .v (.int .i64 (v1.length : Int)) :: .v (.int .i64 v15) :: .junk :: .junk :: .junk :: .junk :: .junk :: .junk :: .junk :: .junk :: .junk :: .junk :: .junk :: .junk :: .junk :: .junk :: .junk :: .junk :: .junk :: .junk :: .junk :: .junk :: .junk :: .junk :: .junk :: .junk :: [],[.var [.v (.int .i64 0),.v (.int .i64 0)],.var [.v (.int .i64 v13),.v (.int .i64 v14)]]⟩) (fun (v21,v22)=>(.exit 0,⟨.junk :: .junk :: .junk :: .junk :: .junk :: .junk :: .lptr 0 0 0 :: .junk :: .junk :: .lptr 1 0 0 :: .junk :: .junk :: .junk :: .junk :: .junk :: .junk :: .junk :: .junk :: .junk :: .junk :: .junk :: .junk :: .junk :: .junk :: .junk :: .junk :: .junk :: .junk :: .junk :: .junk :: .junk :: .junk :: .junk :: .junk :: .junk :: .junk :: .junk :: .junk :: .junk :: .junk :: .junk :: .junk :: .junk :: .junk :: .junk :: .junk :: .junk :: .junk :: .junk :: .junk :: .junk :: .junk :: [],[.var [.v (.int .i64 0),.v (.int .i64 0)],.var [.v (.int .i64 v21),.v (.int .i64 v22)]]⟩)) ?_ ?_ ?_ ?_
      · rintro ⟨v13,v14,v15⟩ v0 hr
        dsimp only [image_Arrived_l1] at hr
        try dsimp only
        refine wa_ T (g:=?_)
        rcases ifs hr with ⟨h12,hr⟩|⟨h12,hr⟩
        · have T:=an h12 T
          refine wa_ T (g:=?_)
          obtain ⟨⟨v23,v24,v25⟩,h13,hr⟩:=bs hr
          try dsimp only at hr
          have h13m:=tidx_map (f:=e_Li_Liiii_i) h13
          have h13l:=getI_lt h13
          try simp only [List.length_set] at h13l
          have h13a:=getI_at h13
          have T:=an h13m T
          have T:=an h13l T
          have T:=an h13a T
          refine wA T (g:=?_)
          obtain ⟨⟨v26,v27⟩,h14,hr⟩:=bs hr
          try dsimp only at hr
          apply TO.cal (wn T) rfl goFn24 (image_delayOf_spec h14) rfl rfl rfl
          repeat exact sd T
          refine wA T (g:=?_)
          rcases ifs hr with ⟨h15,hr⟩|⟨h15,hr⟩
          · repeat (first|(with_reducible first|refine mv ?_|refine TO.nil ?_)|((with_reducible first|apply TO.ia|apply TO.ld|apply TO.bin|apply TO.sv|apply TO.fa|apply TO.mv);(repeat (focus (show _ = _;first|exact k1 rfl|exact k2 rfl|(simp only [zz,y17,e_Li_Liiii_i,Nat.reduceAdd,Nat.reduceMul,Nat.reduceLeDiff,Nat.reduceEqDiff,tindexAddr,z5,Int.reduceToNat,Int.reduceLE,Int.reduceLT,Int.cast_ofNat_Int,tload,rowOf,partT,List.getElem?_map,tfieldAddr,h5,h12,h13m,h13l,h13a,h15]<;>exact rfl)|exact rfl)));(with_reducible apply TO.here))|((with_reducible apply TX.region);(focus (simp only [zl]<;>exact rfl));(focus rfl);(try dsimp only))|((with_reducible apply TX.cond_true);(focus rfl);(focus (first|rfl|(simp only [z1,zn,h5,h12,h13m,h13l,h13a,h15];done))))|((with_reducible apply TX.cond_false);(focus rfl);(focus (first|rfl|(simp only [z1,zn,h5,h12,h13m,h13l,h13a,h15];done))))|fail)
            rcases ifs hr with ⟨h16,hr⟩|⟨h16,hr⟩
            · repeat (first|(with_reducible first|refine mv ?_|refine TO.nil ?_)|((with_reducible first|apply TO.ia|apply TO.ld|apply TO.bin|apply TO.sv|apply TO.mv);(repeat (focus (show _ = _;first|exact k1 rfl|exact k2 rfl|(simp only [zz,y17,e_Li_Liiii_i,Nat.reduceAdd,Nat.reduceMul,Nat.reduceLeDiff,Nat.reduceEqDiff,tindexAddr,z5,Int.reduceToNat,Int.reduceLE,Int.reduceLT,Int.cast_ofNat_Int,tload,rowOf,partT,List.getElem?_map,h5,h12,h13m,h13l,h13a,h15,h16]<;>exact rfl)|exact rfl)));(with_reducible apply TO.here))|((with_reducible apply TX.region);(focus (simp only [zl]<;>exact rfl));(focus rfl);(try dsimp only))|((with_reducible apply TX.cond_true);(focus rfl);(focus (first|rfl|(simp only [z1,zn,h5,h12,h13m,h13l,h13a,h15,h16];done))))|((with_reducible apply TX.cond_false);(focus rfl);(focus (first|rfl|(simp only [z1,zn,h5,h12,h13m,h13l,h13a,h15,h16];done))))|fail)
              cases hr
              refine ⟨rfl,?_⟩
              have T:=an h15 T
              have T:=an h16 T
              exact wk_ T [some 0,some 1] rfl (rv (rv .nil rfl) rfl)
            · have T:=an h15 T
              have T:=an h16 T
              refine wa_ T (g:=?_)
              cases hr
              refine ⟨rfl,?_⟩
              exact wk_ T [some 0,some 1] rfl (rv (rv .nil rfl) rfl)
          · have T:=an h15 T
            refine wA T (g:=?_)
            rcases ifs hr with ⟨h17,hr⟩|⟨h17,hr⟩
            · repeat (first|(with_reducible first|refine mv ?_|refine TO.nil ?_)|((with_reducible first|apply TO.ia|apply TO.ld|apply TO.bin|apply TO.sv|apply TO.mv);(repeat (focus (show _ = _;first|exact k1 rfl|exact k2 rfl|(simp only [zz,y17,e_Li_Liiii_i,Nat.reduceAdd,Nat.reduceMul,Nat.reduceLeDiff,Nat.reduceEqDiff,tindexAddr,z5,Int.reduceToNat,Int.reduceLE,Int.reduceLT,Int.cast_ofNat_Int,tload,rowOf,partT,List.getElem?_map,h5,h12,h13m,h13l,h13a,h15,h17]<;>exact rfl)|exact rfl)));(with_reducible apply TO.here))|((with_reducible apply TX.region);(focus (simp only [zl]<;>exact rfl));(focus rfl);(try dsimp only))|((with_reducible apply TX.cond_true);(focus rfl);(focus (first|rfl|(simp only [z1,zn,h5,h12,h13m,h13l,h13a,h15,h17];done))))|((with_reducible apply TX.cond_false);(focus rfl);(focus (first|rfl|(simp only [z1,zn,h5,h12,h13m,h13l,h13a,h15,h17];done))))|fail)
              cases hr
              refine ⟨rfl,?_⟩
              have T:=an h17 T
              exact wk_ T [some 0,some 1] rfl (rv (rv .nil rfl) rfl)
            · have T:=an h17 T
              refine wa_ T (g:=?_)
              cases hr
              refine ⟨rfl,?_⟩
              exact wk_ T [some 0,some 1] rfl (rv (rv .nil rfl) rfl)
        · have T:=an h12 T
          refine wa_ T (g:=?_)
          cases hr
          refine ⟨rfl,?_⟩
          exact wk_ T [some 0,some 1] rfl (rv (rv .nil rfl) rfl)
      · intro e h;cases h
      · try dsimp only
        refine wA T (g:=?_)
        cases hr
        refine ⟨.inr rfl,_,(ry T),?_⟩
        exact wk_ T [] rfl .nil
      · try dsimp only
        exact wk_ T [some 0,some 1] rfl (rv (rv .nil rfl) rfl)
  rfl

end Go.Rex

namespace Go.Rex
open Go.Proofs
open Go Go.Rex Go.RowKit
set_option maxRecDepth 100000
set_option maxHeartbeats 200000
theorem base_Within_spec {v1 : Int} {v2 : Int} {v3 : Int} {v4 : Bool} (hr : base_Within v1 v2 v3 = some (v4)) : Spec (lim Tryz.prog) 11 [.v (.int .i64 v1),.v (.int .i64 v2),.v (.int .i64 v3)] ⟨[.v (.bool v4)],[]⟩:=by
  unfold base_Within at hr
  have T:=trivial
  apply Spec.fn Tryz.func11 rfl
  focus (simp [Tryz.f11]<;>exact rfl)
  focus
    refine wa_ T (g:=?_)
    rcases ifs hr with ⟨h1,hr⟩|⟨h1,hr⟩
    · have T:=an h1 T
      refine wa_ T (g:=?_)
      cases hr
      refine ⟨.inr rfl,_,(ry T),?_⟩
      exact wk_ T [] rfl .nil
    · have T:=an h1 T
      refine wa_ T (g:=?_)
      cases hr
      refine ⟨.inr rfl,_,(ry T),?_⟩
      exact wk_ T [] rfl .nil
  rfl

end Go.Rex

namespace Go.Rex
open Go.Proofs
open Go Go.Rex Go.RowKit
set_option maxRecDepth 100000
set_option maxHeartbeats 200000
def y18:=an @ag26 <| an @ag27 <| an @ag3 <| an @fd29_0 <| an @fd29_1 <| an @fd29_2 <| an @so26 <| @so27
theorem ref02_PathErr_spec {v1 : (List Int)} {v2 : (List (Int × Int × Int × Int))} {v3 : Int} {v4 : Int} (hr : ref02_PathErr v1 v2 v3 = some (v4)) : Spec (lim Tryz.prog) 27 [.agg [.list 1 (v1.map e_i),.list 4 (v2.map e_iiii),.v (.int .i64 v3)]] ⟨[.v (.int .i64 v4)],[]⟩:=by
  unfold ref02_PathErr at hr
  have T:=an y18 <| an @e_i.eq_1 <| @e_iiii.eq_1
  apply Spec.fn Tryz.func27 rfl
  focus (simp [Tryz.f27]<;>exact rfl)
  focus
    refine wD T (g:=?_)
    rcases ifs hr with ⟨h1,hr⟩|⟨h1,hr⟩
    · have T:=an h1 T
      refine wa_ T (g:=?_)
      cases hr
      refine ⟨.inr rfl,_,(ry T),?_⟩
      exact wk_ T [] rfl .nil
    · have T:=an h1 T
      refine wC T (g:=?_)
      rcases ifs hr with ⟨h2,hr⟩|⟨h2,hr⟩
      · have T:=an h2 T
        refine wa_ T (g:=?_)
        cases hr
        refine ⟨.inr rfl,_,(ry T),?_⟩
        exact wk_ T [] rfl .nil
      · have T:=an h2 T
        refine wA T (g:=?_)
        obtain ⟨v5,h3,hr⟩:=bs hr
        apply TO.cal (wn T) rfl goFn11 (base_Within_spec h3) rfl rfl rfl
        repeat exact sd T
        refine wa_ T (g:=?_)
        apply TO.pop1 (wn T) (pop_not rfl)
        repeat exact sd T
        refine wa_ T (g:=?_)
        rcases ifs hr with ⟨h4,hr⟩|⟨h4,hr⟩
        · have T:=an h4 T
          refine wa_ T (g:=?_)
          cases hr
          refine ⟨.inr rfl,_,(ry T),?_⟩
          exact wk_ T [] rfl .nil
        · have T:=an h4 T
          refine wa_ T (g:=?_)
          cases hr
          refine ⟨.inr rfl,_,(ry T),?_⟩
          exact wk_ T [] rfl .nil
  rfl

end Go.Rex

namespace Go.Rex
open Go.Proofs
open Go Go.Rex Go.RowKit
set_option maxRecDepth 100000
set_option maxHeartbeats 1000000
def y19:=an @ag29 <| an @ag3 <| an @cs29 <| an @fd29_2 <| an @ok29 <| an @so22 <| @wi64_0a1
theorem ref02_ListErr_spec {v1 : (List ((List Int) × (List (Int × Int × Int × Int)) × Int))} {v2 : Int} (hr : ref02_ListErr v1 = some (v2)) : Spec (lim Tryz.prog) 8 [.list 3 (v1.map e_Li_Liiii_i)] ⟨[.v (.int .i64 v2)],[]⟩:=by
  unfold ref02_ListErr at hr
  have T:=an y19 <| @e_Li_Liiii_i.eq_1
  apply Spec.fn Tryz.func8 rfl
  focus (simp [Tryz.f8]<;>exact rfl)
  focus
    refine wc_ T (g:=?_)
    rcases ifs hr with ⟨h1,hr⟩|⟨h1,hr⟩
    · have T:=an h1 T
      refine wa_ T (g:=?_)
      cases hr
      refine ⟨.inr rfl,_,(ry T),?_⟩
      exact wk_ T [] rfl .nil
    · have T:=an h1 T
      refine wa_ T (g:=?_)
      obtain ⟨v19,h16,hr⟩:=bs hr
      refine TX.loopE (step:=ref02_ListErr_l1 v1) (x:=0) h16 (fun v3=>⟨.list 3 (v1.map e_Li_Liiii_i) :: .junk :: .junk :: .v (.int .i64 v3) :: .junk :: .junk :: .junk :: .junk :: .junk :: .junk :: .junk :: .junk :: .junk :: .junk :: .junk :: .junk :: .junk :: .junk :: .junk :: .junk :: .junk :: .junk :: .junk :: .junk :: .junk :: .junk :: .junk :: .junk :: .junk :: .junk :: .junk :: .junk :: .junk :: .junk :: .junk :: .junk :: .junk :: .junk :: [],[]⟩) (fun e=>match e with|(.inl v11)=>(.ret,⟨.junk :: .junk :: .v (.int .i64 v11) :: .junk :: .junk :: .junk :: .junk :: .junk :: .junk :: .junk :: .junk :: .junk :: .junk :: .junk :: .junk :: .junk :: .junk :: .junk :: .junk :: .junk :: .junk :: .junk :: .junk :: .junk :: .junk :: .junk :: .junk :: .junk :: .junk :: .junk :: .junk :: .junk :: .junk :: .junk :: .junk :: .junk :: .junk :: .junk :: [],[]⟩)|(.inr _)=>(.exit 0,⟨.junk :: .junk :: .junk :: .junk :: .junk :: .junk :: .junk :: .junk :: .junk :: .junk :: .junk :: .junk :: .junk :: .junk :: .junk :: .junk :: .junk :: .junk :: .junk :: .junk :: .junk :: .junk :: .junk :: .junk :: .junk :: .junk :: .junk :: .junk :: .junk :: .junk :: .junk :: .junk :: .junk :: .junk :: .junk :: .junk :: .junk :: .junk :: [],[]⟩)) ?_ ?_ ?_ ?_
      · rintro v3 v0 hr
        dsimp only [ref02_ListErr_l1] at hr
        try dsimp only
        refine wc_ T (g:=?_)
        rcases ifs hr with ⟨h9,hr⟩|⟨h9,hr⟩
        · have T:=an h9 T
          refine wa_ T (g:=?_)
          obtain ⟨⟨v12,v13,v14⟩,h10,hr⟩:=bs hr
          try dsimp only at hr
          have T:=an (gx e_Li_Liiii_i h10) T
          refine wA T (g:=?_)
          obtain ⟨v15,h11,hr⟩:=bs hr
          apply TO.cal (wn T) rfl goFn27 (ref02_PathErr_spec h11) rfl rfl rfl
          repeat exact sd T
          refine wa_ T (g:=?_)
          rcases ifs hr with ⟨h12,hr⟩|⟨h12,hr⟩
          · have T:=an h12 T
            refine wa_ T (g:=?_)
            cases hr
            refine ⟨rfl,?_⟩
            exact wk_ T [] rfl .nil
          · have T:=an h12 T
            refine wa_ T (g:=?_)
            rcases ifs hr with ⟨h13,hr⟩|⟨h13,hr⟩
            · have T:=an h13 T
              refine wA T (g:=?_)
              obtain ⟨⟨v16,v17,v18⟩,h14,hr⟩:=bs hr
              try dsimp only at hr
              have T:=an (gx e_Li_Liiii_i h14) T
              refine wA T (g:=?_)
              rcases ifs hr with ⟨h15,hr⟩|⟨h15,hr⟩
              · have T:=an h15 T
                refine wa_ T (g:=?_)
                cases hr
                refine ⟨rfl,?_⟩
                exact wk_ T [] rfl .nil
              · have T:=an h15 T
                refine wa_ T (g:=?_)
                cases hr
                refine ⟨rfl,?_⟩
                exact wk_ T [] rfl .nil
            · have T:=an h13 T
              refine wa_ T (g:=?_)
              cases hr
              refine ⟨rfl,?_⟩
              exact wk_ T [] rfl .nil
        · have T:=an h9 T
          refine wa_ T (g:=?_)
          cases hr
          refine ⟨rfl,?_⟩
          exact wk_ T [] rfl .nil
      · intro e h;rcases e with _|e<;>cases h
      · try dsimp only
        rcases v19 with v20|_
        · try dsimp only at hr
          try dsimp only
          refine wa_ T (g:=?_)
          cases hr
          refine ⟨.inr rfl,_,(ry T),?_⟩
          exact wk_ T [] rfl .nil
        · try dsimp only at hr
          try dsimp only
          refine wa_ T (g:=?_)
          cases hr
          refine ⟨.inr rfl,_,(ry T),?_⟩
          exact wk_ T [] rfl .nil
      · try dsimp only
        exact wk_ T [] rfl .nil
  rfl

end Go.Rex

namespace Go.Rex
open Go.Proofs
open Go Go.Rex Go.RowKit
set_option maxRecDepth 100000
set_option maxHeartbeats 200000
theorem ref02_SpeedErr_spec {v1 : Int} {v2 : Int} (hr : ref02_SpeedErr v1 = some (v2)) : Spec (lim Tryz.prog) 9 [.v (.int .i64 v1)] ⟨[.v (.int .i64 v2)],[]⟩:=by
  unfold ref02_SpeedErr at hr
  have T:=trivial
  apply Spec.fn Tryz.func9 rfl
  focus (simp [Tryz.f9]<;>exact rfl)
  focus
    refine wa_ T (g:=?_)
    obtain ⟨v3,h1,hr⟩:=bs hr
    apply TO.cal (wn T) rfl goFn11 (base_Within_spec h1) rfl rfl rfl
    repeat exact sd T
    refine wa_ T (g:=?_)
    apply TO.pop1 (wn T) (pop_not rfl)
    repeat exact sd T
    refine wa_ T (g:=?_)
    rcases ifs hr with ⟨h2,hr⟩|⟨h2,hr⟩
    · have T:=an h2 T
      refine wa_ T (g:=?_)
      cases hr
      refine ⟨.inr rfl,_,(ry T),?_⟩
      exact wk_ T [] rfl .nil
    · have T:=an h2 T
      refine wa_ T (g:=?_)
      cases hr
      refine ⟨.inr rfl,_,(ry T),?_⟩
      exact wk_ T [] rfl .nil
  rfl

end Go.Rex

namespace Go.Rex
open Go.Proofs
open Go Go.Rex Go.RowKit
set_option maxRecDepth 100000
set_option maxHeartbeats 200000
def y20:=an @wi64_0a1073741824 <| @wi64_1073741824m1073741824
theorem base_Root_spec {v1 : Int} {v2 : Int} (hr : base_Root v1 = some (v2)) : Spec (lim Tryz.prog) 73 [.v (.int .i64 v1)] ⟨[.v (.int .i64 v2)],[]⟩:=by
  unfold base_Root at hr
  have T:=y20
  apply Spec.fn Tryz.func73 rfl
  focus (simp [Tryz.f73]<;>exact rfl)
  focus
    refine wa_ T (g:=?_)
    obtain ⟨v6,h5,hr⟩:=bs hr
    refine TX.loopE (step:=base_Root_l1 v1) (x:=(0,1073741824)) h5 (fun (v3,v4)=>⟨.v (.int .i64 v1) :: .junk :: .junk :: .v (.int .i64 v3) :: .v (.int .i64 v4) :: .junk :: .junk :: .junk :: .junk :: .junk :: .junk :: .junk :: .junk :: .junk :: .junk :: .junk :: .junk :: .junk :: .junk :: .junk :: .junk :: .junk :: [],[]⟩) (fun v5=>(.exit 0,⟨.junk :: .junk :: .junk :: .v (.int .i64 v5) :: .junk :: .junk :: .junk :: .junk :: .junk :: .junk :: .junk :: .junk :: .junk :: .junk :: .junk :: .junk :: .junk :: .junk :: .junk :: .junk :: .junk :: .junk :: [],[]⟩)) ?_ ?_ ?_ ?_
    · rintro ⟨v3,v4⟩ v0 hr
      dsimp only [base_Root_l1] at hr
      try dsimp only
      refine wa_ T (g:=?_)
      rcases ifs hr with ⟨h3,hr⟩|⟨h3,hr⟩
      · have T:=an h3 T
        refine wa_ T (g:=?_)
        rcases ifs hr with ⟨h4,hr⟩|⟨h4,hr⟩
        · have T:=an h4 T
          refine wa_ T (g:=?_)
          cases hr
          refine ⟨rfl,?_⟩
          exact wk_ T [] rfl .nil
        · have T:=an h4 T
          refine wa_ T (g:=?_)
          cases hr
          refine ⟨rfl,?_⟩
          exact wk_ T [] rfl .nil
      · have T:=an h3 T
        refine wa_ T (g:=?_)
        cases hr
        refine ⟨rfl,?_⟩
        exact wk_ T [] rfl .nil
    · intro e h;cases h
    · try dsimp only
      refine wa_ T (g:=?_)
      cases hr
      refine ⟨.inr rfl,_,(ry T),?_⟩
      exact wr [] rfl .nil
    · try dsimp only
      exact wr [] rfl .nil
  rfl

end Go.Rex

namespace Go.Rex
open Go.Proofs
open Go Go.Rex Go.RowKit
set_option maxRecDepth 100000
set_option maxHeartbeats 200000
theorem base_RootUp_spec {v1 : Int} {v2 : Int} (hr : base_RootUp v1 = some (v2)) : Spec (lim Tryz.prog) 74 [.v (.int .i64 v1)] ⟨[.v (.int .i64 v2)],[]⟩:=by
  unfold base_RootUp at hr
  have T:=trivial
  apply Spec.fn Tryz.func74 rfl
  focus (simp [Tryz.f74]<;>exact rfl)
  focus
    refine wa_ T (g:=?_)
    obtain ⟨v3,h1,hr⟩:=bs hr
    apply TO.cal (wn T) rfl goFn73 (base_Root_spec h1) rfl rfl rfl
    repeat exact sd T
    refine wa_ T (g:=?_)
    rcases ifs hr with ⟨h2,hr⟩|⟨h2,hr⟩
    · have T:=an h2 T
      refine wa_ T (g:=?_)
      cases hr
      refine ⟨.inr rfl,_,(ry T),?_⟩
      exact wk_ T [] rfl .nil
    · have T:=an h2 T
      refine wa_ T (g:=?_)
      cases hr
      refine ⟨.inr rfl,_,(ry T),?_⟩
      exact wk_ T [] rfl .nil
  rfl

end Go.Rex

namespace Go.Rex
open Go.Proofs
open Go Go.Rex Go.RowKit
set_option maxRecDepth 100000
set_option maxHeartbeats 200000
def y21:=an @ag31 <| an @cs31 <| an @ok31 <| an @st31 <| @zc31
theorem ref02_LengthOf_spec {v1 : Int} {v2 : Int} {v3 : Int} (hr : ref02_LengthOf v1 = some (v2,v3)) : Spec (lim Tryz.prog) 47 [.v (.int .i64 v1)] ⟨[.agg [.v (.int .i64 v2),.v (.int .i64 v3)]],[]⟩:=by
  unfold ref02_LengthOf at hr
  have T:=y21
  apply Spec.fn Tryz.func47 rfl
  focus (simp [Tryz.f47]<;>exact rfl)
  focus
    refine wa_ T (g:=?_)
    obtain ⟨v4,h1,hr⟩:=bs hr
    apply TO.cal (wn T) rfl goFn73 (base_Root_spec h1) rfl rfl rfl
    repeat exact sd T
    refine wa_ T (g:=?_)
    obtain ⟨v5,h2,hr⟩:=bs hr
    apply TO.cal (wn T) rfl goFn74 (base_RootUp_spec h2) rfl rfl rfl
    repeat exact sd T
    refine wa_ T (g:=?_)
    cases hr
    refine ⟨.inr rfl,_,(ry T),?_⟩
    exact wr [] rfl .nil
  rfl

end Go.Rex

namespace Go.Rex
open Go.Proofs
open Go Go.Rex Go.RowKit
set_option maxRecDepth 100000
set_option maxHeartbeats 200000
theorem base_Floor_spec {v1 : Int} {v2 : Int} {v3 : Int} (hr : base_Floor v1 v2 = some (v3)) : Spec (lim Tryz.prog) 48 [.v (.int .i64 v1),.v (.int .i64 v2)] ⟨[.v (.int .i64 v3)],[]⟩:=by
  unfold base_Floor at hr
  have T:=trivial
  apply Spec.fn Tryz.func48 rfl
  focus (simp [Tryz.f48]<;>exact rfl)
  focus
    refine wa_ T (g:=?_)
    by_cases h1 : v2 = 0
    · rw [if_pos h1] at hr
      cases hr
    · rw [if_neg h1] at hr
      have T:=an h1 T
      refine wa_ T (g:=?_)
      rcases ifs hr with ⟨h2,hr⟩|⟨h2,hr⟩
      · have T:=an h2 T
        refine wa_ T (g:=?_)
        cases hr
        refine ⟨.inr rfl,_,(ry T),?_⟩
        exact wk_ T [] rfl .nil
      · have T:=an h2 T
        refine wa_ T (g:=?_)
        cases hr
        refine ⟨.inr rfl,_,(ry T),?_⟩
        exact wk_ T [] rfl .nil
  rfl

end Go.Rex

namespace Go.Rex
open Go.Proofs
open Go Go.Rex Go.RowKit
set_option maxRecDepth 100000
set_option maxHeartbeats 200000
theorem base_Ceil_spec {v1 : Int} {v2 : Int} {v3 : Int} (hr : base_Ceil v1 v2 = some (v3)) : Spec (lim Tryz.prog) 49 [.v (.int .i64 v1),.v (.int .i64 v2)] ⟨[.v (.int .i64 v3)],[]⟩:=by
  unfold base_Ceil at hr
  have T:=trivial
  apply Spec.fn Tryz.func49 rfl
  focus (simp [Tryz.f49]<;>exact rfl)
  focus
    refine wa_ T (g:=?_)
    apply TO.pop1 (wn T) (pop_neg rfl)
    repeat exact sd T
    refine wa_ T (g:=?_)
    obtain ⟨v4,h1,hr⟩:=bs hr
    apply TO.cal (wn T) rfl goFn48 (base_Floor_spec h1) rfl rfl rfl
    repeat exact sd T
    refine wa_ T (g:=?_)
    apply TO.pop1 (wn T) (pop_neg rfl)
    repeat exact sd T
    refine wa_ T (g:=?_)
    cases hr
    refine ⟨.inr rfl,_,(ry T),?_⟩
    exact wr [] rfl .nil
  rfl

end Go.Rex

namespace Go.Rex
open Go.Proofs
open Go Go.Rex Go.RowKit
set_option maxRecDepth 100000
set_option maxHeartbeats 200000
def y22:=an @ag3 <| an @ag31 <| an @cs31 <| an @fd31_0 <| an @fd31_1 <| an @ok31 <| an @st31 <| @zc31
theorem ref02_DelayOf_spec {v1 : Int} {v2 : Int} {v3 : Int} {v4 : Int} (hr : ref02_DelayOf v1 v2 = some (v3,v4)) : Spec (lim Tryz.prog) 28 [.v (.int .i64 v1),.v (.int .i64 v2)] ⟨[.agg [.v (.int .i64 v3),.v (.int .i64 v4)]],[]⟩:=by
  unfold ref02_DelayOf at hr
  have T:=y22
  apply Spec.fn Tryz.func28 rfl
  focus (simp [Tryz.f28]<;>exact rfl)
  focus
    refine wa_ T (g:=?_)
    obtain ⟨⟨v5,v6⟩,h1,hr⟩:=bs hr
    try dsimp only at hr
    apply TO.cal (wn T) rfl goFn47 (ref02_LengthOf_spec h1) rfl rfl rfl
    repeat exact sd T
    refine wA T (g:=?_)
    obtain ⟨v7,h2,hr⟩:=bs hr
    apply TD.cal (wn T) rfl goFn48 (base_Floor_spec h2) rfl rfl rfl
    repeat exact sd T
    refine wA T (g:=?_)
    obtain ⟨v8,h3,hr⟩:=bs hr
    apply TD.cal (wn T) rfl goFn49 (base_Ceil_spec h3) rfl rfl rfl
    repeat exact sd T
    refine wa_ T (g:=?_)
    cases hr
    refine ⟨.inr rfl,_,(ry T),?_⟩
    exact wr [] rfl .nil
  rfl

end Go.Rex

namespace Go.Rex
open Go.Proofs
open Go Go.Rex Go.RowKit
set_option maxRecDepth 100000
set_option maxHeartbeats 200000
def y23:=an @ag3 <| an @ag31 <| an @cs29 <| an @cs31 <| an @fd29_2 <| an @fd31_0 <| an @fd31_1 <| an @ok29 <| an @ok31 <| an @so22 <| an @st31 <| @zc31
theorem ref02_GapOf_spec {v1 : (List ((List Int) × (List (Int × Int × Int × Int)) × Int))} {v2 : Int} {v3 : Int} {v4 : Int} (hr : ref02_GapOf v1 v2 = some (v3,v4)) : Spec (lim Tryz.prog) 10 [.list 3 (v1.map e_Li_Liiii_i),.v (.int .i64 v2)] ⟨[.agg [.v (.int .i64 v3),.v (.int .i64 v4)]],[]⟩:=by
  unfold ref02_GapOf at hr
  have T:=an y23 <| @e_Li_Liiii_i.eq_1
  apply Spec.fn Tryz.func10 rfl
  focus (simp [Tryz.f10]<;>exact rfl)
  focus
    refine wa_ T (g:=?_)
    obtain ⟨⟨v5,v6,v7⟩,h1,hr⟩:=bs hr
    try dsimp only at hr
    have T:=an (gx e_Li_Liiii_i h1) T
    refine wA T (g:=?_)
    obtain ⟨⟨v8,v9⟩,h2,hr⟩:=bs hr
    try dsimp only at hr
    apply TD.cal (wn T) rfl goFn28 (ref02_DelayOf_spec h2) rfl rfl rfl
    repeat exact sd T
    refine wa_ T (g:=?_)
    obtain ⟨⟨v10,v11,v12⟩,h3,hr⟩:=bs hr
    try dsimp only at hr
    have T:=an (gx e_Li_Liiii_i h3) T
    refine wA T (g:=?_)
    obtain ⟨⟨v13,v14⟩,h4,hr⟩:=bs hr
    try dsimp only at hr
    apply TD.cal (wn T) rfl goFn28 (ref02_DelayOf_spec h4) rfl rfl rfl
    repeat exact sd T
    refine wA T (g:=?_)
    apply TO.pop1 (wn T) (pop_max rfl rfl)
    repeat exact sd T
    refine wA T (g:=?_)
    cases hr
    refine ⟨.inr rfl,_,(ry T),?_⟩
    exact wr [] rfl .nil
  rfl

end Go.Rex

namespace Go.Rex
open Go.Proofs
open Go Go.Rex Go.RowKit
set_option maxRecDepth 100000
set_option maxHeartbeats 200000
def y24:=an @ag3 <| an @ag36 <| an @ar36 <| an @cs29 <| an @cs3 <| an @cs31 <| an @cs36 <| an @fd29_2 <| an @fd31_0 <| an @fd31_1 <| an @ok29 <| an @ok3 <| an @ok31 <| an @ok36 <| an @so22 <| an @so36 <| an @zc31 <| an @zc36 <| @wi64_0a1
theorem ref02_Arrived_spec {v1 : (List ((List Int) × (List (Int × Int × Int × Int)) × Int))} {v2 : Int} {v3 : Int} {v4 : Int} {v5 : Int} (hr : ref02_Arrived v1 v2 v3 = some (v4,v5)) : Spec (lim Tryz.prog) 12 [.list 3 (v1.map e_Li_Liiii_i),.v (.int .i64 v2),.v (.int .i64 v3)] ⟨[.agg [.v (.int .i64 v4),.v (.int .i64 v5)]],[]⟩:=by
  unfold ref02_Arrived at hr
  have T:=an y24 <| @e_Li_Liiii_i.eq_1
  apply Spec.fn Tryz.func12 rfl
  focus (simp [Tryz.f12]<;>exact rfl)
  focus
    refine wa_ T (g:=?_)
    obtain ⟨⟨v21,v22⟩,h13,hr⟩:=bs hr
    try dsimp only at hr
    refine TX.loopE (step:=ref02_Arrived_l1 v1 v2 v3) (x:=(0,0,0)) h13 (fun (v6,v7,v8)=>⟨.list 3 (v1.map e_Li_Liiii_i) :: .v (.int .i64 v2) :: .v (.int .i64 v3) :: .junk :: .junk :: .junk :: .lptr 0 0 0 :: .lptr 1 0 0 :: .v (.int .i64 v8) :: .junk :: .junk :: .junk :: .junk :: .junk :: .junk :: .junk :: .junk :: .junk :: .junk :: .junk :: .junk :: .junk :: .junk :: .junk :: .junk :: .junk :: .junk :: .junk :: .junk :: .junk :: .junk :: .junk :: .junk :: .junk :: .junk :: .junk :: .junk :: .junk :: .junk :: .junk :: [],[.var [.v (.int .i64 0),.v (.int .i64 0)],.var [.v (.int .i64 v6),.v (.int .i64 v7)]]⟩) (fun (v14,v15)=>(.exit 0,⟨.junk :: .junk :: .junk :: .junk :: .junk :: .junk :: .lptr 0 0 0 :: .lptr 1 0 0 :: .junk :: .junk :: .junk :: .junk :: .junk :: .junk :: .junk :: .junk :: .junk :: .junk :: .junk :: .junk :: .junk :: .junk :: .junk :: .junk :: .junk :: .junk :: .junk :: .junk :: .junk :: .junk :: .junk :: .junk :: .junk :: .junk :: .junk :: .junk :: .junk :: .junk :: .junk :: .junk :: [],[.var [.v (.int .i64 0),.v (.int .i64 0)],.var [.v (.int .i64 v14),.v (.int .i64 v15)]]⟩)) ?_ ?_ ?_ ?_
    · rintro ⟨v6,v7,v8⟩ v0 hr
      dsimp only [ref02_Arrived_l1] at hr
      try dsimp only
      refine wc_ T (g:=?_)
      rcases ifs hr with ⟨h7,hr⟩|⟨h7,hr⟩
      · have T:=an h7 T
        refine wa_ T (g:=?_)
        obtain ⟨⟨v16,v17,v18⟩,h8,hr⟩:=bs hr
        try dsimp only at hr
        have h8m:=tidx_map (f:=e_Li_Liiii_i) h8
        have h8l:=getI_lt h8
        try simp only [List.length_set] at h8l
        have h8a:=getI_at h8
        have T:=an h8m T
        have T:=an h8l T
        have T:=an h8a T
        refine wA T (g:=?_)
        obtain ⟨⟨v19,v20⟩,h9,hr⟩:=bs hr
        try dsimp only at hr
        apply TO.cal (wn T) rfl goFn28 (ref02_DelayOf_spec h9) rfl rfl rfl
        repeat exact sd T
        refine wA T (g:=?_)
        rcases ifs hr with ⟨h10,hr⟩|⟨h10,hr⟩
        · repeat (first|(with_reducible first|refine mv ?_|refine TO.nil ?_)|((with_reducible first|apply TO.ia|apply TO.ld|apply TO.bin|apply TO.sv|apply TO.fa|apply TO.mv);(repeat (focus (show _ = _;first|exact k1 rfl|exact k2 rfl|(simp only [zz,y24,e_Li_Liiii_i,Nat.reduceAdd,Nat.reduceMul,Nat.reduceLeDiff,Nat.reduceEqDiff,tindexAddr,z5,Int.reduceToNat,Int.reduceLE,Int.reduceLT,Int.cast_ofNat_Int,tload,rowOf,partT,List.getElem?_map,tfieldAddr,h7,h8m,h8l,h8a,h10]<;>exact rfl)|exact rfl)));(with_reducible apply TO.here))|((with_reducible apply TX.region);(focus (simp only [zl]<;>exact rfl));(focus rfl);(try dsimp only))|((with_reducible apply TX.cond_true);(focus rfl);(focus (first|rfl|(simp only [z1,zn,h7,h8m,h8l,h8a,h10];done))))|((with_reducible apply TX.cond_false);(focus rfl);(focus (first|rfl|(simp only [z1,zn,h7,h8m,h8l,h8a,h10];done))))|fail)
          rcases ifs hr with ⟨h11,hr⟩|⟨h11,hr⟩
          · repeat (first|(with_reducible first|refine mv ?_|refine TO.nil ?_)|((with_reducible first|apply TO.ia|apply TO.ld|apply TO.bin|apply TO.sv|apply TO.mv|apply TO.asg);(repeat (focus (show _ = _;first|exact k1 rfl|exact k2 rfl|(simp only [zz,y24,e_Li_Liiii_i,Nat.reduceAdd,Nat.reduceMul,Nat.reduceLeDiff,Nat.reduceEqDiff,tindexAddr,z5,Int.reduceToNat,Int.reduceLE,Int.reduceLT,Int.cast_ofNat_Int,tload,rowOf,partT,List.getElem?_map,h7,h8m,h8l,h8a,h10,h11]<;>exact rfl)|exact rfl)));(with_reducible apply TO.here))|((with_reducible apply TX.region);(focus (simp only [zl]<;>exact rfl));(focus rfl);(try dsimp only))|((with_reducible apply TX.cond_true);(focus rfl);(focus (first|rfl|(simp only [z1,zn,h7,h8m,h8l,h8a,h10,h11];done))))|((with_reducible apply TX.cond_false);(focus rfl);(focus (first|rfl|(simp only [z1,zn,h7,h8m,h8l,h8a,h10,h11];done))))|fail)
            cases hr
            refine ⟨rfl,?_⟩
            have T:=an h10 T
            have T:=an h11 T
            exact wk_ T [some 0,some 1] rfl (rv (rv .nil rfl) rfl)
          · have T:=an h10 T
            have T:=an h11 T
            refine wa_ T (g:=?_)
            cases hr
            refine ⟨rfl,?_⟩
            exact wk_ T [some 0,some 1] rfl (rv (rv .nil rfl) rfl)
        · have T:=an h10 T
          refine wA T (g:=?_)
          rcases ifs hr with ⟨h12,hr⟩|⟨h12,hr⟩
          · repeat (first|(with_reducible first|refine mv ?_|refine TO.nil ?_)|((with_reducible first|apply TO.ia|apply TO.ld|apply TO.bin|apply TO.sv|apply TO.mv|apply TO.asg);(repeat (focus (show _ = _;first|exact k1 rfl|exact k2 rfl|(simp only [zz,y24,e_Li_Liiii_i,Nat.reduceAdd,Nat.reduceMul,Nat.reduceLeDiff,Nat.reduceEqDiff,tindexAddr,z5,Int.reduceToNat,Int.reduceLE,Int.reduceLT,Int.cast_ofNat_Int,tload,rowOf,partT,List.getElem?_map,h7,h8m,h8l,h8a,h10,h12]<;>exact rfl)|exact rfl)));(with_reducible apply TO.here))|((with_reducible apply TX.region);(focus (simp only [zl]<;>exact rfl));(focus rfl);(try dsimp only))|((with_reducible apply TX.cond_true);(focus rfl);(focus (first|rfl|(simp only [z1,zn,h7,h8m,h8l,h8a,h10,h12];done))))|((with_reducible apply TX.cond_false);(focus rfl);(focus (first|rfl|(simp only [z1,zn,h7,h8m,h8l,h8a,h10,h12];done))))|fail)
            cases hr
            refine ⟨rfl,?_⟩
            have T:=an h12 T
            exact wk_ T [some 0,some 1] rfl (rv (rv .nil rfl) rfl)
          · have T:=an h12 T
            refine wa_ T (g:=?_)
            cases hr
            refine ⟨rfl,?_⟩
            exact wk_ T [some 0,some 1] rfl (rv (rv .nil rfl) rfl)
      · have T:=an h7 T
        refine wa_ T (g:=?_)
        cases hr
        refine ⟨rfl,?_⟩
        exact wk_ T [some 0,some 1] rfl (rv (rv .nil rfl) rfl)
    · intro e h;cases h
    · try dsimp only
      refine wA T (g:=?_)
      cases hr
      refine ⟨.inr rfl,_,(ry T),?_⟩
      exact wr [] rfl .nil
    · try dsimp only
      exact wr [some 0,some 1] rfl (rv (rv .nil rfl) rfl)
  rfl

end Go.Rex

namespace Go.Rex
open Go.Proofs
open Go Go.Rex Go.RowKit
set_option maxRecDepth 100000

end Go.Rex
