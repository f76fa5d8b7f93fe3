/- Proofs that the program's functions do what these plain functions say. -/
import Derived.Test.YtpjccpokiaefjaaGreatDoorGB
import Derived.Test.YtpjccpokiaefjaaGreatDoorS
import Derived.Test.YtpjccpokiaefjaaGreatDoorCZ
set_option linter.unusedSimpArgs false
set_option linter.unusedVariables false
set_option linter.defProp false
namespace Go.Rex
open Go.Proofs
open Go Go.Rex Go.RowKit
set_option maxRecDepth 100000
set_option maxHeartbeats 200000
def y1:=an @ag22 <| an @ag24 <| an @by40 <| an @cs22 <| an @cs24 <| an @cs40 <| an @fd24_2 <| an @ni22 <| an @ok22 <| an @ok24 <| an @so22 <| an @zc24 <| @zc40
theorem ref07_Copy_spec {v1 : Int} {v2 : Int} {v3 : (List (Int × Int × Int × Int × Int))} {v4 : Int} {v5 : Int} {v6 : (List (Int × Int × Int × Int × Int))} (hr : ref07_Copy v1 v2 v3 = some (v4,v5,v6)) : Spec (lim Tryz.prog) 14 [.agg [.v (.int .i64 v1),.v (.int .i64 v2),.list 5 (v3.map e_iiiii)]] ⟨[.agg [.v (.int .i64 v4),.v (.int .i64 v5),.lsl 0 0 v6.length]],[.rows 5 (v6.map e_iiiii)]⟩:=by
  unfold ref07_Copy at hr
  have T:=an y1 <| @e_iiiii.eq_1
  apply Spec.fn Tryz.func14 rfl
  focus (simp [Tryz.f14]<;>exact rfl)
  focus
    repeat (first|(with_reducible first|refine mv ?_|refine TO.nil ?_)|((with_reducible first|apply TO.bx (dst:=some 1)|apply TO.al);(repeat (focus (show _ = _;first|exact k1 rfl|exact k2 rfl|(simp only [zz,y1,e_iiiii,Nat.reduceAdd,Nat.reduceMul,Nat.reduceLeDiff,Nat.reduceEqDiff]<;>exact rfl)|exact rfl)));(with_reducible apply TO.here))|((with_reducible apply TX.region);(focus (simp only [zl]<;>exact rfl));(focus rfl);(try dsimp only))|fail)
    apply TO.bl e_iiiii ([] : List (Int × Int × Int × Int × Int)) (wn T) rfl (by simp only [zz,y1,e_iiiii,Nat.reduceAdd,Nat.reduceMul,Nat.reduceLeDiff,Nat.reduceEqDiff,tslice,tparts];exact rfl) rfl rfl
    repeat exact sd T
    refine wA T (g:=?_)
    obtain ⟨v7,h1,hr⟩:=bs hr
    apply TO.ap (f:=e_iiiii) (xs:=([] : List (Int × Int × Int × Int × Int))) (ys:=v3) (wn T) rfl rfl (by first|rfl|simp only [List.length_set]) rfl rfl so22 ni22 zc40 rfl (by rw [by40];exact h1) (fun _=>⟨rfl,rfl,rfl⟩)
    repeat exact sd T
    refine wA T (g:=?_)
    cases hr
    refine ⟨.inr rfl,_,(ry T),?_⟩
    exact wr [some 2] rfl (.rows .nil rfl rfl)
  rfl

end Go.Rex

namespace Go.Rex
open Go.Proofs
open Go Go.Rex Go.RowKit
set_option maxRecDepth 100000
set_option maxHeartbeats 200000
def y2:=an @ag3 <| an @ag43 <| an @cs43 <| an @fd118_0 <| an @fd24_0 <| an @fd24_1 <| an @ok43 <| an @st43 <| @zc43
theorem array_rig_sound_spec {v1 : Int} {v2 : Int} {v3 : (List (Int × Int × Int × Int × Int))} {v4 : Int} {v5 : Int} (hr : array_rig_sound v1 v2 v3 = some (v4,v5)) : Spec (lim Tryz.prog) 65 [.agg [.v (.int .i64 v1),.v (.int .i64 v2),.list 5 (v3.map e_iiiii)]] ⟨[.agg [.v (.int .i64 v4),.v (.int .i64 v5)]],[]⟩:=by
  unfold array_rig_sound at hr
  have T:=an y2 <| @e_iiiii.eq_1
  apply Spec.fn Tryz.func65 rfl
  focus (simp [Tryz.f65]<;>exact rfl)
  focus
    refine wB T (g:=?_)
    cases hr
    refine ⟨.inr rfl,_,(ry T),?_⟩
    exact wr [] rfl .nil
  rfl

end Go.Rex

namespace Go.Rex
open Go.Proofs
open Go Go.Rex Go.RowKit
set_option maxRecDepth 100000
set_option maxHeartbeats 200000
theorem array_audible_spec {v1 : Int} {v2 : Int} {v3 : Int} {v4 : Int} (hr : array_audible v1 v2 = some (v3,v4)) : Spec (lim Tryz.prog) 64 [.agg [.v (.int .i64 v1),.v (.int .i64 v2)]] ⟨[.func 122 [] [.fptr true [.v (.int .i64 v3),.v (.int .i64 v4)] 0]],[]⟩:=by
  unfold array_audible at hr
  have T:=trivial
  apply Spec.fn Tryz.func64 rfl
  focus (simp [Tryz.f64]<;>exact rfl)
  focus
    refine wb_ T (g:=?_)
    cases hr
    refine ⟨.inr rfl,_,(ry T),?_⟩
    exact wr [] rfl .nil
  rfl

end Go.Rex

namespace Go.Rex
open Go.Proofs
open Go Go.Rex Go.RowKit
set_option maxRecDepth 100000
set_option maxHeartbeats 200000
theorem array_counted_spec {v1 : Int} {v2 : Int} {v3 : Int} {v4 : Int} (hr : array_counted v1 v2 = some (v3,v4)) : Spec (lim Tryz.prog) 66 [.v (.int .i64 v1),.v (.int .i64 v2)] ⟨[.func 123 [] [.fptr true [.v (.int .i64 v3)] 0,.fptr true [.v (.int .i64 v4)] 0]],[]⟩:=by
  unfold array_counted at hr
  have T:=trivial
  apply Spec.fn Tryz.func66 rfl
  focus (simp [Tryz.f66]<;>exact rfl)
  focus
    refine wb_ T (g:=?_)
    cases hr
    refine ⟨.inr rfl,_,(ry T),?_⟩
    exact wr [] rfl .nil
  rfl

end Go.Rex

namespace Go.Rex
open Go.Proofs
open Go Go.Rex Go.RowKit
set_option maxRecDepth 100000
set_option maxHeartbeats 200000
theorem array_refuse_spec {v1 : Bool} {v2 : Int} {v3 : Bool} {v4 : Int} (hr : array_refuse v1 v2 = some (v3,v4)) : Spec (lim Tryz.prog) 70 [.v (.bool v1),.v (.int .i64 v2)] ⟨[.func 126 [] [.fptr true [.v (.bool v3)] 0,.fptr true [.v (.int .i64 v4)] 0]],[]⟩:=by
  unfold array_refuse at hr
  have T:=trivial
  apply Spec.fn Tryz.func70 rfl
  focus (simp [Tryz.f70]<;>exact rfl)
  focus
    refine wb_ T (g:=?_)
    cases hr
    refine ⟨.inr rfl,_,(ry T),?_⟩
    exact wr [] rfl .nil
  rfl

end Go.Rex

namespace Go.Rex
open Go.Proofs
open Go Go.Rex Go.RowKit
set_option maxRecDepth 100000
set_option maxHeartbeats 200000
theorem array_within_spec {v1 : Int} {v2 : Int} {v3 : Int} {v4 : Bool} {v5 : Int} (hr : array_within v1 v2 v3 = some (v4,v5)) : Spec (lim Tryz.prog) 100 [.v (.int .i64 v1),.v (.int .i64 v2),.v (.int .i64 v3)] ⟨[.func 126 [] [.fptr true [.v (.bool v4)] 0,.fptr true [.v (.int .i64 v5)] 0]],[]⟩:=by
  unfold array_within at hr
  have T:=trivial
  apply Spec.fn Tryz.func100 rfl
  focus (simp [Tryz.f100]<;>exact rfl)
  focus
    refine wa_ T (g:=?_)
    rcases ifs hr with ⟨h1,hr⟩|⟨h1,hr⟩
    · have T:=an h1 T
      refine wa_ T (g:=?_)
      obtain ⟨⟨v6,v7⟩,h2,hr⟩:=bs hr
      try dsimp only at hr
      apply TO.cal (wn T) rfl goFn70 (array_refuse_spec h2) rfl rfl rfl
      repeat exact sd T
      refine wa_ T (g:=?_)
      cases hr
      refine ⟨.inr rfl,_,(ry T),?_⟩
      exact wk_ T [] rfl .nil
    · have T:=an h1 T
      refine wa_ T (g:=?_)
      obtain ⟨⟨v8,v9⟩,h3,hr⟩:=bs hr
      try dsimp only at hr
      apply TO.cal (wn T) rfl goFn70 (array_refuse_spec h3) rfl rfl rfl
      repeat exact sd T
      refine wa_ T (g:=?_)
      cases hr
      refine ⟨.inr rfl,_,(ry T),?_⟩
      exact wk_ T [] rfl .nil
  rfl

end Go.Rex

namespace Go.Rex
open Go.Proofs
open Go Go.Rex Go.RowKit
set_option maxRecDepth 100000
set_option maxHeartbeats 200000
def y3:=an @ag27 <| @ag4
theorem array_refuse_c1_11f9_spec {v1 : Bool} {v2 : Int} {v3 : Int} (hr : array_refuse_c1_11f9 v1 v2 = some (v3)) : Spec (lim Tryz.prog) 126 [.fptr true [.v (.bool v1)] 0,.fptr true [.v (.int .i64 v2)] 0] ⟨[.v (.int .i64 v3)],[]⟩:=by
  unfold array_refuse_c1_11f9 at hr
  have T:=y3
  apply Spec.fn Tryz.func126 rfl
  focus (simp [Tryz.f126]<;>exact rfl)
  focus
    refine wA T (g:=?_)
    rcases ifs hr with ⟨h1,hr⟩|⟨h1,hr⟩
    · have T:=an h1 T
      refine wA T (g:=?_)
      cases hr
      refine ⟨.inr rfl,_,(ry T),?_⟩
      exact wk_ T [] rfl .nil
    · have T:=an h1 T
      refine wa_ T (g:=?_)
      cases hr
      refine ⟨.inr rfl,_,(ry T),?_⟩
      exact wk_ T [] rfl .nil
  rfl

end Go.Rex

namespace Go.Rex
open Go.Proofs
open Go Go.Rex Go.RowKit
set_option maxRecDepth 100000
set_option maxHeartbeats 200000
def y4:=an @ag121 <| an @cs121 <| an @ok121 <| an @so182 <| an @wi64_0a1 <| @wi64_1a1
theorem array_firstError_751b_spec {v1 : Bool} {v2 : Int} {v3 : Bool} {v4 : Int} {v5 : Int} (hr : array_firstError_751b v1 v2 v3 v4 = some (v5)) : Spec (lim Tryz.prog) 63 [.list 1 [[.func 126 [] [.fptr true [.v (.bool v1)] 0,.fptr true [.v (.int .i64 v2)] 0]],[.func 126 [] [.fptr true [.v (.bool v3)] 0,.fptr true [.v (.int .i64 v4)] 0]]]] ⟨[.v (.int .i64 v5)],[]⟩:=by
  unfold array_firstError_751b at hr
  have T:=y4
  apply Spec.fn Tryz.func63 rfl
  focus (simp [Tryz.f63]<;>exact rfl)
  focus
    refine wc_ T (g:=?_)
    refine TX.unroll ?_
    repeat (first|(with_reducible first|refine mv ?_|refine TO.nil ?_)|((with_reducible first|apply TO.bin|apply TO.ia|apply TO.ld|apply TO.asg|apply TO.mv);(repeat (focus (show _ = _;first|exact k1 rfl|exact k2 rfl|(simp only [zz,y4,Nat.reduceAdd,Nat.reduceMul,Nat.reduceLeDiff,Nat.reduceEqDiff,tindexAddr,z5,Int.reduceToNat,Int.reduceLE,Int.reduceLT,Int.cast_ofNat_Int,tload,rowOf,partT,List.getElem?_map]<;>exact rfl)|exact rfl)));(with_reducible apply TO.here))|((with_reducible apply TX.region);(focus (simp only [zl]<;>exact rfl));(focus rfl);(try dsimp only))|((with_reducible apply TX.cond_true);(focus rfl);(focus (first|rfl|(simp only [z1,zn];done))))|((with_reducible apply TX.cond_false);(focus rfl);(focus (first|rfl|(simp only [z1,zn];done))))|fail)
    obtain ⟨v6,h1,hr⟩:=bs hr
    apply TO.cal (wn T) rfl goFn126 (array_refuse_c1_11f9_spec h1) rfl rfl rfl
    repeat exact sd T
    refine wa_ T (g:=?_)
    rcases ifs hr with ⟨h2,hr⟩|⟨h2,hr⟩
    · have T:=an h2 T
      refine wa_ T (g:=?_)
      cases hr
      refine ⟨.inr rfl,_,(ry T),?_⟩
      exact wk_ T [] rfl .nil
    · have T:=an h2 T
      refine wa_ T (g:=?_)
      refine TX.unroll ?_
      repeat (first|(with_reducible first|refine mv ?_|refine TO.nil ?_)|((with_reducible first|apply TO.bin|apply TO.ia|apply TO.ld|apply TO.asg|apply TO.mv);(repeat (focus (show _ = _;first|exact k1 rfl|exact k2 rfl|(simp only [zz,y4,Nat.reduceAdd,Nat.reduceMul,Nat.reduceLeDiff,Nat.reduceEqDiff,tindexAddr,z5,Int.reduceToNat,Int.reduceLE,Int.reduceLT,Int.cast_ofNat_Int,tload,rowOf,partT,List.getElem?_map,h2]<;>exact rfl)|exact rfl)));(with_reducible apply TO.here))|((with_reducible apply TX.region);(focus (simp only [zl]<;>exact rfl));(focus rfl);(try dsimp only))|((with_reducible apply TX.cond_true);(focus rfl);(focus (first|rfl|(simp only [z1,zn,h2];done))))|((with_reducible apply TX.cond_false);(focus rfl);(focus (first|rfl|(simp only [z1,zn,h2];done))))|fail)
      obtain ⟨v7,h3,hr⟩:=bs hr
      apply TO.cal (wn T) rfl goFn126 (array_refuse_c1_11f9_spec h3) rfl rfl rfl
      repeat exact sd T
      refine wa_ T (g:=?_)
      rcases ifs hr with ⟨h4,hr⟩|⟨h4,hr⟩
      · have T:=an h4 T
        refine wa_ T (g:=?_)
        cases hr
        refine ⟨.inr rfl,_,(ry T),?_⟩
        exact wk_ T [] rfl .nil
      · have T:=an h4 T
        refine wa_ T (g:=?_)
        refine TX.unroll ?_
        refine wa_ T (g:=?_)
        cases hr
        refine ⟨.inr rfl,_,(ry T),?_⟩
        exact wk_ T [] rfl .nil
  rfl

end Go.Rex

namespace Go.Rex
open Go.Proofs
open Go Go.Rex Go.RowKit
set_option maxRecDepth 100000
set_option maxHeartbeats 200000
def y5:=an @ag3 <| an @cs121 <| an @fd43_0 <| an @fd43_1 <| an @so182 <| @zc121
theorem array_audible_c1_eebc_spec {v1 : Int} {v2 : Int} {v3 : Int} (hr : array_audible_c1_eebc v1 v2 = some (v3)) : Spec (lim Tryz.prog) 122 [.fptr true [.v (.int .i64 v1),.v (.int .i64 v2)] 0] ⟨[.v (.int .i64 v3)],[]⟩:=by
  unfold array_audible_c1_eebc at hr
  have T:=y5
  apply Spec.fn Tryz.func122 rfl
  focus (simp [Tryz.f122]<;>exact rfl)
  focus
    refine wA T (g:=?_)
    obtain ⟨⟨v4,v5⟩,h1,hr⟩:=bs hr
    try dsimp only at hr
    apply TD.cal (wn T) rfl goFn100 (array_within_spec h1) rfl rfl rfl
    repeat exact sd T
    refine wA T (g:=?_)
    obtain ⟨⟨v6,v7⟩,h2,hr⟩:=bs hr
    try dsimp only at hr
    apply TD.cal (wn T) rfl goFn100 (array_within_spec h2) rfl rfl rfl
    repeat exact sd T
    refine we_ T (g:=?_)
    obtain ⟨v8,h3,hr⟩:=bs hr
    apply TD.cal (wn T) rfl goFn63 (array_firstError_751b_spec h3) rfl rfl rfl
    repeat exact sd T
    refine wa_ T (g:=?_)
    cases hr
    refine ⟨.inr rfl,_,(ry T),?_⟩
    exact wr [] rfl .nil
  rfl

end Go.Rex

namespace Go.Rex
open Go.Proofs
open Go Go.Rex Go.RowKit
set_option maxRecDepth 100000
set_option maxHeartbeats 200000
def y6:=an @ag3 <| an @cs121 <| an @so182 <| @zc121
theorem array_counted_c1_b585_spec {v1 : Int} {v2 : Int} {v3 : Int} (hr : array_counted_c1_b585 v1 v2 = some (v3)) : Spec (lim Tryz.prog) 123 [.fptr true [.v (.int .i64 v1)] 0,.fptr true [.v (.int .i64 v2)] 0] ⟨[.v (.int .i64 v3)],[]⟩:=by
  unfold array_counted_c1_b585 at hr
  have T:=y6
  apply Spec.fn Tryz.func123 rfl
  focus (simp [Tryz.f123]<;>exact rfl)
  focus
    refine wA T (g:=?_)
    obtain ⟨⟨v4,v5⟩,h1,hr⟩:=bs hr
    try dsimp only at hr
    apply TD.cal (wn T) rfl goFn70 (array_refuse_spec h1) rfl rfl rfl
    repeat exact sd T
    refine wA T (g:=?_)
    obtain ⟨⟨v6,v7⟩,h2,hr⟩:=bs hr
    try dsimp only at hr
    apply TD.cal (wn T) rfl goFn70 (array_refuse_spec h2) rfl rfl rfl
    repeat exact sd T
    refine we_ T (g:=?_)
    obtain ⟨v8,h3,hr⟩:=bs hr
    apply TD.cal (wn T) rfl goFn63 (array_firstError_751b_spec h3) rfl rfl rfl
    repeat exact sd T
    refine wa_ T (g:=?_)
    cases hr
    refine ⟨.inr rfl,_,(ry T),?_⟩
    exact wr [] rfl .nil
  rfl

end Go.Rex

namespace Go.Rex
open Go.Proofs
open Go Go.Rex Go.RowKit
set_option maxRecDepth 100000
set_option maxHeartbeats 200000
def y7:=an @ag121 <| an @cs121 <| an @ok121 <| an @so182 <| an @wi64_0a1 <| @wi64_1a1
theorem array_firstError_2e50_spec {v1 : Int} {v2 : Int} {v3 : Int} {v4 : Int} {v5 : Int} (hr : array_firstError_2e50 v1 v2 v3 v4 = some (v5)) : Spec (lim Tryz.prog) 63 [.list 1 [[.func 122 [] [.fptr true [.v (.int .i64 v1),.v (.int .i64 v2)] 0]],[.func 123 [] [.fptr true [.v (.int .i64 v3)] 0,.fptr true [.v (.int .i64 v4)] 0]]]] ⟨[.v (.int .i64 v5)],[]⟩:=by
  unfold array_firstError_2e50 at hr
  have T:=y7
  apply Spec.fn Tryz.func63 rfl
  focus (simp [Tryz.f63]<;>exact rfl)
  focus
    refine wc_ T (g:=?_)
    refine TX.unroll ?_
    repeat (first|(with_reducible first|refine mv ?_|refine TO.nil ?_)|((with_reducible first|apply TO.bin|apply TO.ia|apply TO.ld|apply TO.asg|apply TO.mv);(repeat (focus (show _ = _;first|exact k1 rfl|exact k2 rfl|(simp only [zz,y7,Nat.reduceAdd,Nat.reduceMul,Nat.reduceLeDiff,Nat.reduceEqDiff,tindexAddr,z5,Int.reduceToNat,Int.reduceLE,Int.reduceLT,Int.cast_ofNat_Int,tload,rowOf,partT,List.getElem?_map]<;>exact rfl)|exact rfl)));(with_reducible apply TO.here))|((with_reducible apply TX.region);(focus (simp only [zl]<;>exact rfl));(focus rfl);(try dsimp only))|((with_reducible apply TX.cond_true);(focus rfl);(focus (first|rfl|(simp only [z1,zn];done))))|((with_reducible apply TX.cond_false);(focus rfl);(focus (first|rfl|(simp only [z1,zn];done))))|fail)
    obtain ⟨v6,h1,hr⟩:=bs hr
    apply TO.cal (wn T) rfl goFn122 (array_audible_c1_eebc_spec h1) rfl rfl rfl
    repeat exact sd T
    refine wa_ T (g:=?_)
    rcases ifs hr with ⟨h2,hr⟩|⟨h2,hr⟩
    · have T:=an h2 T
      refine wa_ T (g:=?_)
      cases hr
      refine ⟨.inr rfl,_,(ry T),?_⟩
      exact wk_ T [] rfl .nil
    · have T:=an h2 T
      refine wa_ T (g:=?_)
      refine TX.unroll ?_
      repeat (first|(with_reducible first|refine mv ?_|refine TO.nil ?_)|((with_reducible first|apply TO.bin|apply TO.ia|apply TO.ld|apply TO.asg|apply TO.mv);(repeat (focus (show _ = _;first|exact k1 rfl|exact k2 rfl|(simp only [zz,y7,Nat.reduceAdd,Nat.reduceMul,Nat.reduceLeDiff,Nat.reduceEqDiff,tindexAddr,z5,Int.reduceToNat,Int.reduceLE,Int.reduceLT,Int.cast_ofNat_Int,tload,rowOf,partT,List.getElem?_map,h2]<;>exact rfl)|exact rfl)));(with_reducible apply TO.here))|((with_reducible apply TX.region);(focus (simp only [zl]<;>exact rfl));(focus rfl);(try dsimp only))|((with_reducible apply TX.cond_true);(focus rfl);(focus (first|rfl|(simp only [z1,zn,h2];done))))|((with_reducible apply TX.cond_false);(focus rfl);(focus (first|rfl|(simp only [z1,zn,h2];done))))|fail)
      obtain ⟨v7,h3,hr⟩:=bs hr
      apply TO.cal (wn T) rfl goFn123 (array_counted_c1_b585_spec h3) rfl rfl rfl
      repeat exact sd T
      refine wa_ T (g:=?_)
      rcases ifs hr with ⟨h4,hr⟩|⟨h4,hr⟩
      · have T:=an h4 T
        refine wa_ T (g:=?_)
        cases hr
        refine ⟨.inr rfl,_,(ry T),?_⟩
        exact wk_ T [] rfl .nil
      · have T:=an h4 T
        refine wa_ T (g:=?_)
        refine TX.unroll ?_
        refine wa_ T (g:=?_)
        cases hr
        refine ⟨.inr rfl,_,(ry T),?_⟩
        exact wk_ T [] rfl .nil
  rfl

end Go.Rex

namespace Go.Rex
open Go.Proofs
open Go Go.Rex Go.RowKit
set_option maxRecDepth 100000
set_option maxHeartbeats 200000
theorem array_each_aa71_spec {v1 : Int} {v2 : (List Int)} {v3 : Int} {v4 : Int} {v5 : Int} {v6 : (List Int)} {v7 : Int} {v8 : Int} (hr : array_each_aa71 v1 v2 v3 v4 = some (v5,v6,v7,v8)) : Spec (lim Tryz.prog) 143 [.v (.int .i64 v1),.func 162 [] [.fptr true [.list 1 (v2.map e_i)] 0,.fptr true [.v (.int .i64 v3)] 0,.fptr true [.v (.int .i64 v4)] 0]] ⟨[.func 168 [] [.fptr true [.v (.int .i64 v5)] 0,.fptr true [.func 162 [] [.fptr true [.list 1 (v6.map e_i)] 0,.fptr true [.v (.int .i64 v7)] 0,.fptr true [.v (.int .i64 v8)] 0]] 0]],[]⟩:=by
  unfold array_each_aa71 at hr
  have T:=@e_i.eq_1
  apply Spec.fn Tryz.func143 rfl
  focus (simp [Tryz.f143]<;>exact rfl)
  focus
    refine wb_ T (g:=?_)
    cases hr
    refine ⟨.inr rfl,_,(ry T),?_⟩
    exact wr [] rfl .nil
  rfl

end Go.Rex

namespace Go.Rex
open Go.Proofs
open Go Go.Rex Go.RowKit
set_option maxRecDepth 100000
set_option maxHeartbeats 200000
def y8:=an @ag87 <| @so87
theorem array_allWithin_spec {v1 : (List Int)} {v2 : Int} {v3 : Int} {v4 : Int} {v5 : (List Int)} {v6 : Int} {v7 : Int} (hr : array_allWithin v1 v2 v3 = some (v4,v5,v6,v7)) : Spec (lim Tryz.prog) 124 [.list 1 (v1.map e_i),.v (.int .i64 v2),.v (.int .i64 v3)] ⟨[.func 168 [] [.fptr true [.v (.int .i64 v4)] 0,.fptr true [.func 162 [] [.fptr true [.list 1 (v5.map e_i)] 0,.fptr true [.v (.int .i64 v6)] 0,.fptr true [.v (.int .i64 v7)] 0]] 0]],[]⟩:=by
  unfold array_allWithin at hr
  have T:=an y8 <| @e_i.eq_1
  apply Spec.fn Tryz.func124 rfl
  focus (simp [Tryz.f124]<;>exact rfl)
  focus
    refine wD T (g:=?_)
    obtain ⟨⟨v8,v9,v10,v11⟩,h1,hr⟩:=bs hr
    try dsimp only at hr
    apply TO.cal (wn T) rfl goFn143 (array_each_aa71_spec h1) rfl rfl rfl
    repeat exact sd T
    refine wa_ T (g:=?_)
    cases hr
    refine ⟨.inr rfl,_,(ry T),?_⟩
    exact wr [] rfl .nil
  rfl

end Go.Rex

namespace Go.Rex
open Go.Proofs
open Go Go.Rex Go.RowKit
set_option maxRecDepth 100000
set_option maxHeartbeats 200000
def y9:=an @ag3 <| an @cs3 <| an @fd38_0 <| an @fd38_1 <| an @fd38_2 <| an @so87 <| @zc3
theorem array_placed_spec {v1 : Int} {v2 : Int} {v3 : Int} {v4 : Int} {v5 : (List Int)} {v6 : Int} {v7 : Int} (hr : array_placed v1 v2 v3 = some (v4,v5,v6,v7)) : Spec (lim Tryz.prog) 67 [.agg [.v (.int .i64 v1),.v (.int .i64 v2),.v (.int .i64 v3)]] ⟨[.func 168 [] [.fptr true [.v (.int .i64 v4)] 0,.fptr true [.func 162 [] [.fptr true [.list 1 (v5.map e_i)] 0,.fptr true [.v (.int .i64 v6)] 0,.fptr true [.v (.int .i64 v7)] 0]] 0]],[]⟩:=by
  unfold array_placed at hr
  have T:=an y9 <| @e_i.eq_1
  apply Spec.fn Tryz.func67 rfl
  focus (simp [Tryz.f67]<;>exact rfl)
  focus
    refine wB T (g:=?_)
    apply TO.bm e_i ([v1,v2,v3] : List Int) (wn T) rfl (by simp only [zz,y9,e_i,Nat.reduceAdd,Nat.reduceMul,Nat.reduceLeDiff,Nat.reduceEqDiff,tslice,tparts];exact rfl) rfl
    repeat exact sd T
    refine wa_ T (g:=?_)
    obtain ⟨⟨v8,v9,v10,v11⟩,h1,hr⟩:=bs hr
    try dsimp only at hr
    apply TO.cal (wn T) rfl goFn124 (array_allWithin_spec h1) rfl rfl rfl
    repeat exact sd T
    refine wa_ T (g:=?_)
    cases hr
    refine ⟨.inr rfl,_,(ry T),?_⟩
    exact wr [] rfl .nil
  rfl

end Go.Rex

namespace Go.Rex
open Go.Proofs
open Go Go.Rex Go.RowKit
set_option maxRecDepth 100000
set_option maxHeartbeats 200000
theorem array_adjusted_spec {v1 : Int} {v2 : Int} {v3 : Int} {v4 : Int} (hr : array_adjusted v1 v2 = some (v3,v4)) : Spec (lim Tryz.prog) 68 [.v (.int .i64 v1),.v (.int .i64 v2)] ⟨[.func 125 [] [.fptr true [.v (.int .i64 v3)] 0,.fptr true [.v (.int .i64 v4)] 0]],[]⟩:=by
  unfold array_adjusted at hr
  have T:=trivial
  apply Spec.fn Tryz.func68 rfl
  focus (simp [Tryz.f68]<;>exact rfl)
  focus
    refine wb_ T (g:=?_)
    cases hr
    refine ⟨.inr rfl,_,(ry T),?_⟩
    exact wr [] rfl .nil
  rfl

end Go.Rex

namespace Go.Rex
open Go.Proofs
open Go Go.Rex Go.RowKit
set_option maxRecDepth 100000
set_option maxHeartbeats 200000
def y10:=an @ag3 <| an @ag87 <| an @cs3 <| an @ok3 <| @so87
theorem array_allWithin_c1_ea58_spec {v1 : Int} {v2 : (List Int)} {v3 : Int} {v4 : Int} {v5 : Int} (hr : array_allWithin_c1_ea58 v1 v2 v3 v4 = some (v5)) : Spec (lim Tryz.prog) 162 [.v (.int .i64 v1),.fptr true [.list 1 (v2.map e_i)] 0,.fptr true [.v (.int .i64 v3)] 0,.fptr true [.v (.int .i64 v4)] 0] ⟨[.v (.int .i64 v5)],[]⟩:=by
  unfold array_allWithin_c1_ea58 at hr
  have T:=an y10 <| @e_i.eq_1
  apply Spec.fn Tryz.func162 rfl
  focus (simp [Tryz.f162]<;>exact rfl)
  focus
    refine wA T (g:=?_)
    obtain ⟨v6,h1,hr⟩:=bs hr
    have T:=an (gx e_i h1) T
    refine wA T (g:=?_)
    obtain ⟨⟨v7,v8⟩,h2,hr⟩:=bs hr
    try dsimp only at hr
    apply TD.cal (wn T) rfl goFn100 (array_within_spec h2) rfl rfl rfl
    repeat exact sd T
    refine wa_ T (g:=?_)
    obtain ⟨v9,h3,hr⟩:=bs hr
    apply TD.cal (wn T) rfl goFn126 (array_refuse_c1_11f9_spec h3) rfl rfl rfl
    repeat exact sd T
    refine wa_ T (g:=?_)
    cases hr
    refine ⟨.inr rfl,_,(ry T),?_⟩
    exact wr [] rfl .nil
  rfl

end Go.Rex

namespace Go.Rex
open Go.Proofs
open Go Go.Rex Go.RowKit
set_option maxRecDepth 100000
set_option maxHeartbeats 200000
def y11:=an @ag195 <| an @ag3 <| @wi64_0a1
theorem array_each_c1_6239_spec {v1 : Int} {v2 : (List Int)} {v3 : Int} {v4 : Int} {v5 : Int} (hr : array_each_c1_6239 v1 v2 v3 v4 = some (v5)) : Spec (lim Tryz.prog) 168 [.fptr true [.v (.int .i64 v1)] 0,.fptr true [.func 162 [] [.fptr true [.list 1 (v2.map e_i)] 0,.fptr true [.v (.int .i64 v3)] 0,.fptr true [.v (.int .i64 v4)] 0]] 0] ⟨[.v (.int .i64 v5)],[]⟩:=by
  unfold array_each_c1_6239 at hr
  have T:=an y11 <| @e_i.eq_1
  apply Spec.fn Tryz.func168 rfl
  focus (simp [Tryz.f168]<;>exact rfl)
  focus
    refine wA T (g:=?_)
    obtain ⟨v10,h7,hr⟩:=bs hr
    refine TX.loopE (step:=array_each_c1_6239_l1 v1 v2 v3 v4) (x:=0) h7 (fun v6=>⟨.junk :: .fptr true [.func 162 [] [.fptr true [.list 1 (v2.map e_i)] 0,.fptr true [.v (.int .i64 v3)] 0,.fptr true [.v (.int .i64 v4)] 0]] 0 :: .junk :: .junk :: .junk :: .v (.int .i64 v1) :: .v (.int .i64 v6) :: .junk :: .junk :: .junk :: .junk :: .junk :: .junk :: .junk :: .junk :: .junk :: [],[]⟩) (fun e=>match e with|(.inl v8)=>(.ret,⟨.junk :: .junk :: .v (.int .i64 v8) :: .junk :: .junk :: .junk :: .junk :: .junk :: .junk :: .junk :: .junk :: .junk :: .junk :: .junk :: .junk :: .junk :: [],[]⟩)|(.inr _)=>(.exit 0,⟨.junk :: .junk :: .junk :: .junk :: .junk :: .junk :: .junk :: .junk :: .junk :: .junk :: .junk :: .junk :: .junk :: .junk :: .junk :: .junk :: [],[]⟩)) ?_ ?_ ?_ ?_
    · rintro v6 v0 hr
      dsimp only [array_each_c1_6239_l1] at hr
      try dsimp only
      refine wa_ T (g:=?_)
      rcases ifs hr with ⟨h4,hr⟩|⟨h4,hr⟩
      · have T:=an h4 T
        refine wA T (g:=?_)
        obtain ⟨v9,h5,hr⟩:=bs hr
        apply TO.cal (wn T) rfl goFn162 (array_allWithin_c1_ea58_spec h5) rfl rfl rfl
        repeat exact sd T
        refine wa_ T (g:=?_)
        rcases ifs hr with ⟨h6,hr⟩|⟨h6,hr⟩
        · have T:=an h6 T
          refine wa_ T (g:=?_)
          cases hr
          refine ⟨rfl,?_⟩
          exact wk_ T [] rfl .nil
        · have T:=an h6 T
          refine wa_ T (g:=?_)
          cases hr
          refine ⟨rfl,?_⟩
          exact wk_ T [] rfl .nil
      · have T:=an h4 T
        refine wa_ T (g:=?_)
        cases hr
        refine ⟨rfl,?_⟩
        exact wk_ T [] rfl .nil
    · intro e h;rcases e with _|e<;>cases h
    · try dsimp only
      rcases v10 with v11|_
      · try dsimp only at hr
        try dsimp only
        refine wa_ T (g:=?_)
        cases hr
        refine ⟨.inr rfl,_,(ry T),?_⟩
        exact wr [] rfl .nil
      · try dsimp only at hr
        try dsimp only
        refine wa_ T (g:=?_)
        cases hr
        refine ⟨.inr rfl,_,(ry T),?_⟩
        exact wr [] rfl .nil
    · try dsimp only
      exact wr [] rfl .nil
  rfl

end Go.Rex

namespace Go.Rex
open Go.Proofs
open Go Go.Rex Go.RowKit
set_option maxRecDepth 100000
set_option maxHeartbeats 200000
def y12:=an @ag3 <| an @cs121 <| an @so182 <| @zc121
theorem array_adjusted_c1_b585_spec {v1 : Int} {v2 : Int} {v3 : Int} (hr : array_adjusted_c1_b585 v1 v2 = some (v3)) : Spec (lim Tryz.prog) 125 [.fptr true [.v (.int .i64 v1)] 0,.fptr true [.v (.int .i64 v2)] 0] ⟨[.v (.int .i64 v3)],[]⟩:=by
  unfold array_adjusted_c1_b585 at hr
  have T:=y12
  apply Spec.fn Tryz.func125 rfl
  focus (simp [Tryz.f125]<;>exact rfl)
  focus
    refine wA T (g:=?_)
    obtain ⟨⟨v4,v5⟩,h1,hr⟩:=bs hr
    try dsimp only at hr
    apply TD.cal (wn T) rfl goFn100 (array_within_spec h1) rfl rfl rfl
    repeat exact sd T
    refine wA T (g:=?_)
    obtain ⟨⟨v6,v7⟩,h2,hr⟩:=bs hr
    try dsimp only at hr
    apply TD.cal (wn T) rfl goFn100 (array_within_spec h2) rfl rfl rfl
    repeat exact sd T
    refine we_ T (g:=?_)
    obtain ⟨v8,h3,hr⟩:=bs hr
    apply TD.cal (wn T) rfl goFn63 (array_firstError_751b_spec h3) rfl rfl rfl
    repeat exact sd T
    refine wa_ T (g:=?_)
    cases hr
    refine ⟨.inr rfl,_,(ry T),?_⟩
    exact wr [] rfl .nil
  rfl

end Go.Rex

namespace Go.Rex
open Go.Proofs
open Go Go.Rex Go.RowKit
set_option maxRecDepth 100000
set_option maxHeartbeats 200000
def y13:=an @ag121 <| an @cs121 <| an @ok121 <| an @so182 <| an @wi64_0a1 <| @wi64_1a1
theorem array_firstError_34f2_spec {v1 : Int} {v2 : (List Int)} {v3 : Int} {v4 : Int} {v5 : Int} {v6 : Int} {v7 : Int} (hr : array_firstError_34f2 v1 v2 v3 v4 v5 v6 = some (v7)) : Spec (lim Tryz.prog) 63 [.list 1 [[.func 168 [] [.fptr true [.v (.int .i64 v1)] 0,.fptr true [.func 162 [] [.fptr true [.list 1 (v2.map e_i)] 0,.fptr true [.v (.int .i64 v3)] 0,.fptr true [.v (.int .i64 v4)] 0]] 0]],[.func 125 [] [.fptr true [.v (.int .i64 v5)] 0,.fptr true [.v (.int .i64 v6)] 0]]]] ⟨[.v (.int .i64 v7)],[]⟩:=by
  unfold array_firstError_34f2 at hr
  have T:=an y13 <| @e_i.eq_1
  apply Spec.fn Tryz.func63 rfl
  focus (simp [Tryz.f63]<;>exact rfl)
  focus
    refine wc_ T (g:=?_)
    refine TX.unroll ?_
    repeat (first|(with_reducible first|refine mv ?_|refine TO.nil ?_)|((with_reducible first|apply TO.bin|apply TO.ia|apply TO.ld|apply TO.asg|apply TO.mv);(repeat (focus (show _ = _;first|exact k1 rfl|exact k2 rfl|(simp only [zz,y13,e_i,Nat.reduceAdd,Nat.reduceMul,Nat.reduceLeDiff,Nat.reduceEqDiff,tindexAddr,z5,Int.reduceToNat,Int.reduceLE,Int.reduceLT,Int.cast_ofNat_Int,tload,rowOf,partT,List.getElem?_map]<;>exact rfl)|exact rfl)));(with_reducible apply TO.here))|((with_reducible apply TX.region);(focus (simp only [zl]<;>exact rfl));(focus rfl);(try dsimp only))|((with_reducible apply TX.cond_true);(focus rfl);(focus (first|rfl|(simp only [z1,zn];done))))|((with_reducible apply TX.cond_false);(focus rfl);(focus (first|rfl|(simp only [z1,zn];done))))|fail)
    obtain ⟨v8,h1,hr⟩:=bs hr
    apply TO.cal (wn T) rfl goFn168 (array_each_c1_6239_spec h1) rfl rfl rfl
    repeat exact sd T
    refine wa_ T (g:=?_)
    rcases ifs hr with ⟨h2,hr⟩|⟨h2,hr⟩
    · have T:=an h2 T
      refine wa_ T (g:=?_)
      cases hr
      refine ⟨.inr rfl,_,(ry T),?_⟩
      exact wk_ T [] rfl .nil
    · have T:=an h2 T
      refine wa_ T (g:=?_)
      refine TX.unroll ?_
      repeat (first|(with_reducible first|refine mv ?_|refine TO.nil ?_)|((with_reducible first|apply TO.bin|apply TO.ia|apply TO.ld|apply TO.asg|apply TO.mv);(repeat (focus (show _ = _;first|exact k1 rfl|exact k2 rfl|(simp only [zz,y13,e_i,Nat.reduceAdd,Nat.reduceMul,Nat.reduceLeDiff,Nat.reduceEqDiff,tindexAddr,z5,Int.reduceToNat,Int.reduceLE,Int.reduceLT,Int.cast_ofNat_Int,tload,rowOf,partT,List.getElem?_map,h2]<;>exact rfl)|exact rfl)));(with_reducible apply TO.here))|((with_reducible apply TX.region);(focus (simp only [zl]<;>exact rfl));(focus rfl);(try dsimp only))|((with_reducible apply TX.cond_true);(focus rfl);(focus (first|rfl|(simp only [z1,zn,h2];done))))|((with_reducible apply TX.cond_false);(focus rfl);(focus (first|rfl|(simp only [z1,zn,h2];done))))|fail)
      obtain ⟨v9,h3,hr⟩:=bs hr
      apply TO.cal (wn T) rfl goFn125 (array_adjusted_c1_b585_spec h3) rfl rfl rfl
      repeat exact sd T
      refine wa_ T (g:=?_)
      rcases ifs hr with ⟨h4,hr⟩|⟨h4,hr⟩
      · have T:=an h4 T
        refine wa_ T (g:=?_)
        cases hr
        refine ⟨.inr rfl,_,(ry T),?_⟩
        exact wk_ T [] rfl .nil
      · have T:=an h4 T
        refine wa_ T (g:=?_)
        refine TX.unroll ?_
        refine wa_ T (g:=?_)
        cases hr
        refine ⟨.inr rfl,_,(ry T),?_⟩
        exact wk_ T [] rfl .nil
  rfl

end Go.Rex

namespace Go.Rex
open Go.Proofs
open Go Go.Rex Go.RowKit
set_option maxRecDepth 100000
set_option maxHeartbeats 1000000
def y14:=an @ag118 <| an @ag22 <| an @ag24 <| an @ag3 <| an @ag38 <| an @ag40 <| an @cs118 <| an @cs121 <| an @cs24 <| an @cs38 <| an @cs40 <| an @fd118_0 <| an @fd24_2 <| an @fd40_0 <| an @fd40_1 <| an @fd40_2 <| an @ok118 <| an @ok24 <| an @ok38 <| an @ok40 <| an @so182 <| an @so22 <| an @st118 <| an @zc118 <| an @zc121 <| an @zc40 <| @wi64_0a1
theorem array_CheckArray_spec {v1 : Int} {v2 : Int} {v3 : (List (Int × Int × Int × Int × Int))} {v4 : Int} {v5 : Int} (hr : array_CheckArray v1 v2 v3 = some (v4,v5)) : Spec (lim Tryz.prog) 13 [.agg [.v (.int .i64 v1),.v (.int .i64 v2),.list 5 (v3.map e_iiiii)]] ⟨[.tuple [.v (.int .i64 v4),.v (.int .i64 v5)]],[]⟩:=by
  unfold array_CheckArray at hr
  have T:=an y14 <| @e_iiiii.eq_1
  apply Spec.fn Tryz.func13 rfl
  focus (simp [Tryz.f13]<;>exact rfl)
  focus
    refine wB T (g:=?_)
    obtain ⟨⟨v6,v7⟩,h1,hr⟩:=bs hr
    try dsimp only at hr
    apply TD.cal (wn T) rfl goFn65 (array_rig_sound_spec h1) rfl rfl rfl
    repeat exact sd T
    refine wa_ T (g:=?_)
    obtain ⟨⟨v8,v9⟩,h2,hr⟩:=bs hr
    try dsimp only at hr
    apply TD.cal (wn T) rfl goFn64 (array_audible_spec h2) rfl rfl rfl
    repeat exact sd T
    refine wC T (g:=?_)
    obtain ⟨⟨v10,v11⟩,h3,hr⟩:=bs hr
    try dsimp only at hr
    apply TD.cal (wn T) rfl goFn66 (array_counted_spec h3) rfl rfl rfl
    repeat exact sd T
    refine we_ T (g:=?_)
    obtain ⟨v12,h4,hr⟩:=bs hr
    apply TD.cal (wn T) rfl goFn63 (array_firstError_2e50_spec h4) rfl rfl rfl
    repeat exact sd T
    refine wa_ T (g:=?_)
    rcases ifs hr with ⟨h5,hr⟩|⟨h5,hr⟩
    · have T:=an h5 T
      refine wa_ T (g:=?_)
      cases hr
      refine ⟨.inr rfl,_,(ry T),?_⟩
      exact wk_ T [] rfl .nil
    · have T:=an h5 T
      refine wC T (g:=?_)
      obtain ⟨v40,h18,hr⟩:=bs hr
      refine TX.loopE (step:=array_CheckArray_l1 v3) (x:=0) h18 (fun v13=>⟨.junk :: .junk :: .junk :: .junk :: .junk :: .junk :: .junk :: .junk :: .junk :: .junk :: .junk :: .junk :: .junk :: .junk :: .junk :: .junk :: .junk :: .junk :: .junk :: .junk :: .junk :: .junk :: .junk :: .junk :: .junk :: .junk :: .list 5 (v3.map e_iiiii) :: .v (.int .i64 (v3.length : Int)) :: .v (.int .i64 v13) :: .junk :: .junk :: .junk :: .junk :: .junk :: .junk :: .junk :: .junk :: .junk :: .junk :: .junk :: .junk :: .junk :: .junk :: .junk :: .junk :: .junk :: .junk :: .junk :: [],[]⟩) (fun e=>match e with|(.inl (v26,v27))=>(.ret,⟨.junk :: .junk :: .v (.int .i64 v26) :: .v (.int .i64 v27) :: .junk :: .junk :: .junk :: .junk :: .junk :: .junk :: .junk :: .junk :: .junk :: .junk :: .junk :: .junk :: .junk :: .junk :: .junk :: .junk :: .junk :: .junk :: .junk :: .junk :: .junk :: .junk :: .junk :: .junk :: .junk :: .junk :: .junk :: .junk :: .junk :: .junk :: .junk :: .junk :: .junk :: .junk :: .junk :: .junk :: .junk :: .junk :: .junk :: .junk :: .junk :: .junk :: .junk :: .junk :: [],[]⟩)|(.inr _)=>(.exit 0,⟨.junk :: .junk :: .junk :: .junk :: .junk :: .junk :: .junk :: .junk :: .junk :: .junk :: .junk :: .junk :: .junk :: .junk :: .junk :: .junk :: .junk :: .junk :: .junk :: .junk :: .junk :: .junk :: .junk :: .junk :: .junk :: .junk :: .junk :: .junk :: .junk :: .junk :: .junk :: .junk :: .junk :: .junk :: .junk :: .junk :: .junk :: .junk :: .junk :: .junk :: .junk :: .junk :: .junk :: .junk :: .junk :: .junk :: .junk :: .junk :: [],[]⟩)) ?_ ?_ ?_ ?_
      · rintro v13 v0 hr
        dsimp only [array_CheckArray_l1] at hr
        try dsimp only
        refine wa_ T (g:=?_)
        rcases ifs hr with ⟨h12,hr⟩|⟨h12,hr⟩
        · have T:=an h12 T
          refine wa_ T (g:=?_)
          obtain ⟨⟨v28,v29,v30,v31,v32⟩,h13,hr⟩:=bs hr
          try dsimp only at hr
          have T:=an (gx e_iiiii h13) T
          refine wA T (g:=?_)
          obtain ⟨⟨v33,v34,v35,v36⟩,h14,hr⟩:=bs hr
          try dsimp only at hr
          apply TD.cal (wn T) rfl goFn67 (array_placed_spec h14) rfl rfl rfl
          repeat exact sd T
          refine wA T (g:=?_)
          obtain ⟨⟨v37,v38⟩,h15,hr⟩:=bs hr
          try dsimp only at hr
          apply TD.cal (wn T) rfl goFn68 (array_adjusted_spec h15) rfl rfl rfl
          repeat exact sd T
          refine we_ T (g:=?_)
          obtain ⟨v39,h16,hr⟩:=bs hr
          apply TD.cal (wn T) rfl goFn63 (array_firstError_34f2_spec h16) rfl rfl rfl
          repeat exact sd T
          refine wa_ T (g:=?_)
          rcases ifs hr with ⟨h17,hr⟩|⟨h17,hr⟩
          · have T:=an h17 T
            refine wa_ T (g:=?_)
            cases hr
            refine ⟨rfl,?_⟩
            exact wk_ T [] rfl .nil
          · have T:=an h17 T
            refine wa_ T (g:=?_)
            cases hr
            refine ⟨rfl,?_⟩
            exact wk_ T [] rfl .nil
        · have T:=an h12 T
          refine wa_ T (g:=?_)
          cases hr
          refine ⟨rfl,?_⟩
          exact wk_ T [] rfl .nil
      · intro e h;rcases e with _|e<;>cases h
      · try dsimp only
        rcases v40 with ⟨v41,v42⟩|_
        · try dsimp only at hr
          try dsimp only
          refine wa_ T (g:=?_)
          cases hr
          refine ⟨.inr rfl,_,(ry T),?_⟩
          exact wk_ T [] rfl .nil
        · try dsimp only at hr
          try dsimp only
          refine wa_ T (g:=?_)
          cases hr
          refine ⟨.inr rfl,_,(ry T),?_⟩
          exact wk_ T [] rfl .nil
      · try dsimp only
        exact wk_ T [] rfl .nil
  rfl

end Go.Rex

namespace Go.Rex
open Go.Proofs
open Go Go.Rex Go.RowKit
set_option maxRecDepth 100000
set_option maxHeartbeats 200000
def y15:=an @ag24 <| an @cs24 <| an @fd118_0 <| @ok24
theorem array_rig_check_spec {v1 : Int} {v2 : Int} {v3 : (List (Int × Int × Int × Int × Int))} {v4 : Int} (hr : array_rig_check v1 v2 v3 = some (v4)) : Spec (lim Tryz.prog) 69 [.agg [.v (.int .i64 v1),.v (.int .i64 v2),.list 5 (v3.map e_iiiii)]] ⟨[.v (.int .i64 v4)],[]⟩:=by
  unfold array_rig_check at hr
  have T:=an y15 <| @e_iiiii.eq_1
  apply Spec.fn Tryz.func69 rfl
  focus (simp [Tryz.f69]<;>exact rfl)
  focus
    refine wB T (g:=?_)
    obtain ⟨⟨v5,v6⟩,h1,hr⟩:=bs hr
    try dsimp only at hr
    apply TO.cal (wn T) rfl goFn13 (array_CheckArray_spec h1) rfl rfl rfl
    repeat exact sd T
    refine wa_ T (g:=?_)
    cases hr
    refine ⟨.inr rfl,_,(ry T),?_⟩
    exact wr [] rfl .nil
  rfl

end Go.Rex

namespace Go.Rex
open Go.Proofs
open Go Go.Rex Go.RowKit
set_option maxRecDepth 100000
set_option maxHeartbeats 200000
theorem array_each_a530_spec {v1 : Int} {v2 : Int} {v3 : Int} {v4 : (List (Int × Int × Int × Int × Int))} {v5 : Int} {v6 : Int} {v7 : Int} {v8 : Int} {v9 : Int} {v10 : Int} {v11 : (List (Int × Int × Int × Int × Int))} {v12 : Int} {v13 : Int} {v14 : Int} (hr : array_each_a530 v1 v2 v3 v4 v5 v6 v7 = some (v8,v9,v10,v11,v12,v13,v14)) : Spec (lim Tryz.prog) 143 [.v (.int .i64 v1),.func 163 [] [.fptr true [.v (.int .i64 v2),.v (.int .i64 v3),.list 5 (v4.map e_iiiii),.v (.int .i64 v5),.v (.int .i64 v6),.v (.int .i64 v7)] 0]] ⟨[.func 168 [] [.fptr true [.v (.int .i64 v8)] 0,.fptr true [.func 163 [] [.fptr true [.v (.int .i64 v9),.v (.int .i64 v10),.list 5 (v11.map e_iiiii),.v (.int .i64 v12),.v (.int .i64 v13),.v (.int .i64 v14)] 0]] 0]],[]⟩:=by
  unfold array_each_a530 at hr
  have T:=@e_iiiii.eq_1
  apply Spec.fn Tryz.func143 rfl
  focus (simp [Tryz.f143]<;>exact rfl)
  focus
    refine wb_ T (g:=?_)
    cases hr
    refine ⟨.inr rfl,_,(ry T),?_⟩
    exact wr [] rfl .nil
  rfl

end Go.Rex

namespace Go.Rex
open Go.Proofs
open Go Go.Rex Go.RowKit
set_option maxRecDepth 100000
set_option maxHeartbeats 200000
def y16:=an @ag129 <| an @ag38 <| an @cs129 <| an @cs38 <| an @fd137_1 <| an @fd40_0 <| an @ok129 <| an @ok38 <| an @st129 <| @zc129
theorem array_heard_wayFrom_spec {v1 : Int} {v2 : Int} {v3 : (List (Int × Int × Int × Int × Int))} {v4 : Int} {v5 : Int} {v6 : Int} {v7 : Int} {v8 : Int} {v9 : Int} {v10 : Int} {v11 : Int} {v12 : Int} {v13 : Int} {v14 : Int} {v15 : Int} {v16 : Int} {v17 : Int} (hr : array_heard_wayFrom v1 v2 v3 v4 v5 v6 v7 v8 v9 v10 v11 = some (v12,v13,v14,v15,v16,v17)) : Spec (lim Tryz.prog) 164 [.agg [.v (.int .i64 v1),.v (.int .i64 v2),.list 5 (v3.map e_iiiii),.v (.int .i64 v4),.v (.int .i64 v5),.v (.int .i64 v6)],.agg [.v (.int .i64 v7),.v (.int .i64 v8),.v (.int .i64 v9),.v (.int .i64 v10),.v (.int .i64 v11)]] ⟨[.agg [.v (.int .i64 v12),.v (.int .i64 v13),.v (.int .i64 v14),.v (.int .i64 v15),.v (.int .i64 v16),.v (.int .i64 v17)]],[]⟩:=by
  unfold array_heard_wayFrom at hr
  have T:=an y16 <| @e_iiiii.eq_1
  apply Spec.fn Tryz.func164 rfl
  focus (simp [Tryz.f164]<;>exact rfl)
  focus
    refine wB T (g:=?_)
    cases hr
    refine ⟨.inr rfl,_,(ry T),?_⟩
    exact wr [] rfl .nil
  rfl

end Go.Rex

namespace Go.Rex
open Go.Proofs
open Go Go.Rex Go.RowKit
set_option maxRecDepth 100000
set_option maxHeartbeats 200000
def y17:=an @ag3 <| an @fd129_0 <| an @fd129_1 <| an @fd38_0 <| an @fd38_1 <| @fd38_2
theorem array_way_square_spec {v1 : Int} {v2 : Int} {v3 : Int} {v4 : Int} {v5 : Int} {v6 : Int} {v7 : Int} (hr : array_way_square v1 v2 v3 v4 v5 v6 = some (v7)) : Spec (lim Tryz.prog) 131 [.agg [.v (.int .i64 v1),.v (.int .i64 v2),.v (.int .i64 v3),.v (.int .i64 v4),.v (.int .i64 v5),.v (.int .i64 v6)]] ⟨[.v (.int .i64 v7)],[]⟩:=by
  unfold array_way_square at hr
  have T:=y17
  apply Spec.fn Tryz.func131 rfl
  focus (simp [Tryz.f131]<;>exact rfl)
  focus
    refine wB T (g:=?_)
    cases hr
    refine ⟨.inr rfl,_,(ry T),?_⟩
    exact wr [] rfl .nil
  rfl

end Go.Rex

namespace Go.Rex
open Go.Proofs
open Go Go.Rex Go.RowKit
set_option maxRecDepth 100000
set_option maxHeartbeats 200000
def y18:=an @ag129 <| an @cs129 <| @ok129
theorem array_way_apart_spec {v1 : Int} {v2 : Int} {v3 : Int} {v4 : Int} {v5 : Int} {v6 : Int} {v7 : Int} (hr : array_way_apart v1 v2 v3 v4 v5 v6 = some (v7)) : Spec (lim Tryz.prog) 77 [.agg [.v (.int .i64 v1),.v (.int .i64 v2),.v (.int .i64 v3),.v (.int .i64 v4),.v (.int .i64 v5),.v (.int .i64 v6)]] ⟨[.v (.int .i64 v7)],[]⟩:=by
  unfold array_way_apart at hr
  have T:=y18
  apply Spec.fn Tryz.func77 rfl
  focus (simp [Tryz.f77]<;>exact rfl)
  focus
    refine wB T (g:=?_)
    obtain ⟨v8,h1,hr⟩:=bs hr
    apply TO.cal (wn T) rfl goFn131 (array_way_square_spec h1) rfl rfl rfl
    repeat exact sd T
    refine wa_ T (g:=?_)
    obtain ⟨⟨v9,v10⟩,h2,hr⟩:=bs hr
    try dsimp only at hr
    apply TO.cal (wn T) rfl goFn70 (array_refuse_spec h2) rfl rfl rfl
    repeat exact sd T
    refine wa_ T (g:=?_)
    obtain ⟨v11,h3,hr⟩:=bs hr
    apply TO.cal (wn T) rfl goFn126 (array_refuse_c1_11f9_spec h3) rfl rfl rfl
    repeat exact sd T
    refine wa_ T (g:=?_)
    cases hr
    refine ⟨.inr rfl,_,(ry T),?_⟩
    exact wr [] rfl .nil
  rfl

end Go.Rex

namespace Go.Rex
open Go.Proofs
open Go Go.Rex Go.RowKit
set_option maxRecDepth 100000
set_option maxHeartbeats 200000
def y19:=an @ag137 <| an @ag22 <| an @ag40 <| an @cs137 <| an @cs40 <| an @fd118_0 <| an @fd137_0 <| an @fd24_2 <| an @ok137 <| an @ok40 <| @so22
theorem array_heard_seated_c1_09d0_spec {v1 : Int} {v2 : Int} {v3 : Int} {v4 : (List (Int × Int × Int × Int × Int))} {v5 : Int} {v6 : Int} {v7 : Int} {v8 : Int} (hr : array_heard_seated_c1_09d0 v1 v2 v3 v4 v5 v6 v7 = some (v8)) : Spec (lim Tryz.prog) 163 [.v (.int .i64 v1),.fptr true [.v (.int .i64 v2),.v (.int .i64 v3),.list 5 (v4.map e_iiiii),.v (.int .i64 v5),.v (.int .i64 v6),.v (.int .i64 v7)] 0] ⟨[.v (.int .i64 v8)],[]⟩:=by
  unfold array_heard_seated_c1_09d0 at hr
  have T:=an y19 <| @e_iiiii.eq_1
  apply Spec.fn Tryz.func163 rfl
  focus (simp [Tryz.f163]<;>exact rfl)
  focus
    refine wA T (g:=?_)
    obtain ⟨⟨v9,v10,v11,v12,v13⟩,h1,hr⟩:=bs hr
    try dsimp only at hr
    have T:=an (gx e_iiiii h1) T
    refine wA T (g:=?_)
    obtain ⟨⟨v14,v15,v16,v17,v18,v19⟩,h2,hr⟩:=bs hr
    try dsimp only at hr
    apply TD.cal (wn T) rfl goFn164 (array_heard_wayFrom_spec h2) rfl rfl rfl
    repeat exact sd T
    refine wa_ T (g:=?_)
    obtain ⟨v20,h3,hr⟩:=bs hr
    apply TD.cal (wn T) rfl goFn77 (array_way_apart_spec h3) rfl rfl rfl
    repeat exact sd T
    refine wa_ T (g:=?_)
    cases hr
    refine ⟨.inr rfl,_,(ry T),?_⟩
    exact wr [] rfl .nil
  rfl

end Go.Rex

namespace Go.Rex
open Go.Proofs
open Go Go.Rex Go.RowKit
set_option maxRecDepth 100000
set_option maxHeartbeats 200000
def y20:=an @ag195 <| an @ag3 <| @wi64_0a1
theorem array_each_c1_d3aa_spec {v1 : Int} {v2 : Int} {v3 : Int} {v4 : (List (Int × Int × Int × Int × Int))} {v5 : Int} {v6 : Int} {v7 : Int} {v8 : Int} (hr : array_each_c1_d3aa v1 v2 v3 v4 v5 v6 v7 = some (v8)) : Spec (lim Tryz.prog) 168 [.fptr true [.v (.int .i64 v1)] 0,.fptr true [.func 163 [] [.fptr true [.v (.int .i64 v2),.v (.int .i64 v3),.list 5 (v4.map e_iiiii),.v (.int .i64 v5),.v (.int .i64 v6),.v (.int .i64 v7)] 0]] 0] ⟨[.v (.int .i64 v8)],[]⟩:=by
  unfold array_each_c1_d3aa at hr
  have T:=an y20 <| @e_iiiii.eq_1
  apply Spec.fn Tryz.func168 rfl
  focus (simp [Tryz.f168]<;>exact rfl)
  focus
    refine wA T (g:=?_)
    obtain ⟨v13,h7,hr⟩:=bs hr
    refine TX.loopE (step:=array_each_c1_d3aa_l1 v1 v2 v3 v4 v5 v6 v7) (x:=0) h7 (fun v9=>⟨.junk :: .fptr true [.func 163 [] [.fptr true [.v (.int .i64 v2),.v (.int .i64 v3),.list 5 (v4.map e_iiiii),.v (.int .i64 v5),.v (.int .i64 v6),.v (.int .i64 v7)] 0]] 0 :: .junk :: .junk :: .junk :: .v (.int .i64 v1) :: .v (.int .i64 v9) :: .junk :: .junk :: .junk :: .junk :: .junk :: .junk :: .junk :: .junk :: .junk :: [],[]⟩) (fun e=>match e with|(.inl v11)=>(.ret,⟨.junk :: .junk :: .v (.int .i64 v11) :: .junk :: .junk :: .junk :: .junk :: .junk :: .junk :: .junk :: .junk :: .junk :: .junk :: .junk :: .junk :: .junk :: [],[]⟩)|(.inr _)=>(.exit 0,⟨.junk :: .junk :: .junk :: .junk :: .junk :: .junk :: .junk :: .junk :: .junk :: .junk :: .junk :: .junk :: .junk :: .junk :: .junk :: .junk :: [],[]⟩)) ?_ ?_ ?_ ?_
    · rintro v9 v0 hr
      dsimp only [array_each_c1_d3aa_l1] at hr
      try dsimp only
      refine wa_ T (g:=?_)
      rcases ifs hr with ⟨h4,hr⟩|⟨h4,hr⟩
      · have T:=an h4 T
        refine wA T (g:=?_)
        obtain ⟨v12,h5,hr⟩:=bs hr
        apply TO.cal (wn T) rfl goFn163 (array_heard_seated_c1_09d0_spec h5) rfl rfl rfl
        repeat exact sd T
        refine wa_ T (g:=?_)
        rcases ifs hr with ⟨h6,hr⟩|⟨h6,hr⟩
        · have T:=an h6 T
          refine wa_ T (g:=?_)
          cases hr
          refine ⟨rfl,?_⟩
          exact wk_ T [] rfl .nil
        · have T:=an h6 T
          refine wa_ T (g:=?_)
          cases hr
          refine ⟨rfl,?_⟩
          exact wk_ T [] rfl .nil
      · have T:=an h4 T
        refine wa_ T (g:=?_)
        cases hr
        refine ⟨rfl,?_⟩
        exact wk_ T [] rfl .nil
    · intro e h;rcases e with _|e<;>cases h
    · try dsimp only
      rcases v13 with v14|_
      · try dsimp only at hr
        try dsimp only
        refine wa_ T (g:=?_)
        cases hr
        refine ⟨.inr rfl,_,(ry T),?_⟩
        exact wr [] rfl .nil
      · try dsimp only at hr
        try dsimp only
        refine wa_ T (g:=?_)
        cases hr
        refine ⟨.inr rfl,_,(ry T),?_⟩
        exact wr [] rfl .nil
    · try dsimp only
      exact wr [] rfl .nil
  rfl

end Go.Rex

namespace Go.Rex
open Go.Proofs
open Go Go.Rex Go.RowKit
set_option maxRecDepth 100000
set_option maxHeartbeats 200000
def y21:=an @ag121 <| an @cs121 <| an @ok121 <| an @so182 <| an @wi64_0a1 <| @wi64_1a1
theorem array_firstError_71a7_spec {v1 : Int} {v2 : (List Int)} {v3 : Int} {v4 : Int} {v5 : Int} {v6 : Int} {v7 : Int} {v8 : (List (Int × Int × Int × Int × Int))} {v9 : Int} {v10 : Int} {v11 : Int} {v12 : Int} (hr : array_firstError_71a7 v1 v2 v3 v4 v5 v6 v7 v8 v9 v10 v11 = some (v12)) : Spec (lim Tryz.prog) 63 [.list 1 [[.func 168 [] [.fptr true [.v (.int .i64 v1)] 0,.fptr true [.func 162 [] [.fptr true [.list 1 (v2.map e_i)] 0,.fptr true [.v (.int .i64 v3)] 0,.fptr true [.v (.int .i64 v4)] 0]] 0]],[.func 168 [] [.fptr true [.v (.int .i64 v5)] 0,.fptr true [.func 163 [] [.fptr true [.v (.int .i64 v6),.v (.int .i64 v7),.list 5 (v8.map e_iiiii),.v (.int .i64 v9),.v (.int .i64 v10),.v (.int .i64 v11)] 0]] 0]]]] ⟨[.v (.int .i64 v12)],[]⟩:=by
  unfold array_firstError_71a7 at hr
  have T:=an y21 <| an @e_i.eq_1 <| @e_iiiii.eq_1
  apply Spec.fn Tryz.func63 rfl
  focus (simp [Tryz.f63]<;>exact rfl)
  focus
    refine wc_ T (g:=?_)
    refine TX.unroll ?_
    repeat (first|(with_reducible first|refine mv ?_|refine TO.nil ?_)|((with_reducible first|apply TO.bin|apply TO.ia|apply TO.ld|apply TO.asg|apply TO.mv);(repeat (focus (show _ = _;first|exact k1 rfl|exact k2 rfl|(simp only [zz,y21,e_i,e_iiiii,Nat.reduceAdd,Nat.reduceMul,Nat.reduceLeDiff,Nat.reduceEqDiff,tindexAddr,z5,Int.reduceToNat,Int.reduceLE,Int.reduceLT,Int.cast_ofNat_Int,tload,rowOf,partT,List.getElem?_map]<;>exact rfl)|exact rfl)));(with_reducible apply TO.here))|((with_reducible apply TX.region);(focus (simp only [zl]<;>exact rfl));(focus rfl);(try dsimp only))|((with_reducible apply TX.cond_true);(focus rfl);(focus (first|rfl|(simp only [z1,zn];done))))|((with_reducible apply TX.cond_false);(focus rfl);(focus (first|rfl|(simp only [z1,zn];done))))|fail)
    obtain ⟨v13,h1,hr⟩:=bs hr
    apply TO.cal (wn T) rfl goFn168 (array_each_c1_6239_spec h1) rfl rfl rfl
    repeat exact sd T
    refine wa_ T (g:=?_)
    rcases ifs hr with ⟨h2,hr⟩|⟨h2,hr⟩
    · have T:=an h2 T
      refine wa_ T (g:=?_)
      cases hr
      refine ⟨.inr rfl,_,(ry T),?_⟩
      exact wk_ T [] rfl .nil
    · have T:=an h2 T
      refine wa_ T (g:=?_)
      refine TX.unroll ?_
      repeat (first|(with_reducible first|refine mv ?_|refine TO.nil ?_)|((with_reducible first|apply TO.bin|apply TO.ia|apply TO.ld|apply TO.asg|apply TO.mv);(repeat (focus (show _ = _;first|exact k1 rfl|exact k2 rfl|(simp only [zz,y21,e_i,e_iiiii,Nat.reduceAdd,Nat.reduceMul,Nat.reduceLeDiff,Nat.reduceEqDiff,tindexAddr,z5,Int.reduceToNat,Int.reduceLE,Int.reduceLT,Int.cast_ofNat_Int,tload,rowOf,partT,List.getElem?_map,h2]<;>exact rfl)|exact rfl)));(with_reducible apply TO.here))|((with_reducible apply TX.region);(focus (simp only [zl]<;>exact rfl));(focus rfl);(try dsimp only))|((with_reducible apply TX.cond_true);(focus rfl);(focus (first|rfl|(simp only [z1,zn,h2];done))))|((with_reducible apply TX.cond_false);(focus rfl);(focus (first|rfl|(simp only [z1,zn,h2];done))))|fail)
      obtain ⟨v14,h3,hr⟩:=bs hr
      apply TO.cal (wn T) rfl goFn168 (array_each_c1_d3aa_spec h3) rfl rfl rfl
      repeat exact sd T
      refine wa_ T (g:=?_)
      rcases ifs hr with ⟨h4,hr⟩|⟨h4,hr⟩
      · have T:=an h4 T
        refine wa_ T (g:=?_)
        cases hr
        refine ⟨.inr rfl,_,(ry T),?_⟩
        exact wk_ T [] rfl .nil
      · have T:=an h4 T
        refine wa_ T (g:=?_)
        refine TX.unroll ?_
        refine wa_ T (g:=?_)
        cases hr
        refine ⟨.inr rfl,_,(ry T),?_⟩
        exact wk_ T [] rfl .nil
  rfl

end Go.Rex

namespace Go.Rex
open Go.Proofs
open Go Go.Rex Go.RowKit
set_option maxRecDepth 100000
set_option maxHeartbeats 200000
def y22:=an @ag22 <| an @ag38 <| an @cs121 <| an @cs38 <| an @fd118_0 <| an @fd137_0 <| an @fd137_1 <| an @fd24_2 <| an @ok38 <| an @so182 <| an @so22 <| @zc121
theorem array_heard_seated_spec {v1 : Int} {v2 : Int} {v3 : (List (Int × Int × Int × Int × Int))} {v4 : Int} {v5 : Int} {v6 : Int} {v7 : Int} (hr : array_heard_seated v1 v2 v3 v4 v5 v6 = some (v7)) : Spec (lim Tryz.prog) 133 [.agg [.v (.int .i64 v1),.v (.int .i64 v2),.list 5 (v3.map e_iiiii),.v (.int .i64 v4),.v (.int .i64 v5),.v (.int .i64 v6)]] ⟨[.v (.int .i64 v7)],[]⟩:=by
  unfold array_heard_seated at hr
  have T:=an y22 <| @e_iiiii.eq_1
  apply Spec.fn Tryz.func133 rfl
  focus (simp [Tryz.f133]<;>exact rfl)
  focus
    refine wB T (g:=?_)
    obtain ⟨⟨v8,v9,v10,v11⟩,h1,hr⟩:=bs hr
    try dsimp only at hr
    apply TD.cal (wn T) rfl goFn67 (array_placed_spec h1) rfl rfl rfl
    repeat exact sd T
    refine wC T (g:=?_)
    obtain ⟨⟨v12,v13,v14,v15,v16,v17,v18⟩,h2,hr⟩:=bs hr
    try dsimp only at hr
    apply TD.cal (wn T) rfl goFn143 (array_each_a530_spec h2) rfl rfl rfl
    repeat exact sd T
    refine we_ T (g:=?_)
    obtain ⟨v19,h3,hr⟩:=bs hr
    apply TD.cal (wn T) rfl goFn63 (array_firstError_71a7_spec h3) rfl rfl rfl
    repeat exact sd T
    refine wa_ T (g:=?_)
    cases hr
    refine ⟨.inr rfl,_,(ry T),?_⟩
    exact wr [] rfl .nil
  rfl

end Go.Rex

namespace Go.Rex
open Go.Proofs
open Go Go.Rex Go.RowKit
set_option maxRecDepth 100000
set_option maxHeartbeats 200000
def y23:=an @ag121 <| an @cs121 <| an @ok121 <| an @so182 <| an @wi64_0a1 <| @wi64_1a1
theorem array_firstError_05b8_spec {v1 : Int} {v2 : Int} {v3 : (List (Int × Int × Int × Int × Int))} {v4 : Int} {v5 : Int} {v6 : (List (Int × Int × Int × Int × Int))} {v7 : Int} {v8 : Int} {v9 : Int} {v10 : Int} (hr : array_firstError_05b8 v1 v2 v3 v4 v5 v6 v7 v8 v9 = some (v10)) : Spec (lim Tryz.prog) 63 [.list 1 [[.func 69 [.agg [.v (.int .i64 v1),.v (.int .i64 v2),.list 5 (v3.map e_iiiii)]] []],[.func 133 [.agg [.v (.int .i64 v4),.v (.int .i64 v5),.list 5 (v6.map e_iiiii),.v (.int .i64 v7),.v (.int .i64 v8),.v (.int .i64 v9)]] []]]] ⟨[.v (.int .i64 v10)],[]⟩:=by
  unfold array_firstError_05b8 at hr
  have T:=an y23 <| @e_iiiii.eq_1
  apply Spec.fn Tryz.func63 rfl
  focus (simp [Tryz.f63]<;>exact rfl)
  focus
    refine wc_ T (g:=?_)
    refine TX.unroll ?_
    repeat (first|(with_reducible first|refine mv ?_|refine TO.nil ?_)|((with_reducible first|apply TO.bin|apply TO.ia|apply TO.ld|apply TO.asg|apply TO.mv);(repeat (focus (show _ = _;first|exact k1 rfl|exact k2 rfl|(simp only [zz,y23,e_iiiii,Nat.reduceAdd,Nat.reduceMul,Nat.reduceLeDiff,Nat.reduceEqDiff,tindexAddr,z5,Int.reduceToNat,Int.reduceLE,Int.reduceLT,Int.cast_ofNat_Int,tload,rowOf,partT,List.getElem?_map]<;>exact rfl)|exact rfl)));(with_reducible apply TO.here))|((with_reducible apply TX.region);(focus (simp only [zl]<;>exact rfl));(focus rfl);(try dsimp only))|((with_reducible apply TX.cond_true);(focus rfl);(focus (first|rfl|(simp only [z1,zn];done))))|((with_reducible apply TX.cond_false);(focus rfl);(focus (first|rfl|(simp only [z1,zn];done))))|fail)
    obtain ⟨v11,h1,hr⟩:=bs hr
    apply TO.cal (wn T) rfl goFn69 (array_rig_check_spec h1) rfl rfl rfl
    repeat exact sd T
    refine wa_ T (g:=?_)
    rcases ifs hr with ⟨h2,hr⟩|⟨h2,hr⟩
    · have T:=an h2 T
      refine wa_ T (g:=?_)
      cases hr
      refine ⟨.inr rfl,_,(ry T),?_⟩
      exact wk_ T [] rfl .nil
    · have T:=an h2 T
      refine wa_ T (g:=?_)
      refine TX.unroll ?_
      repeat (first|(with_reducible first|refine mv ?_|refine TO.nil ?_)|((with_reducible first|apply TO.bin|apply TO.ia|apply TO.ld|apply TO.asg|apply TO.mv);(repeat (focus (show _ = _;first|exact k1 rfl|exact k2 rfl|(simp only [zz,y23,e_iiiii,Nat.reduceAdd,Nat.reduceMul,Nat.reduceLeDiff,Nat.reduceEqDiff,tindexAddr,z5,Int.reduceToNat,Int.reduceLE,Int.reduceLT,Int.cast_ofNat_Int,tload,rowOf,partT,List.getElem?_map,h2]<;>exact rfl)|exact rfl)));(with_reducible apply TO.here))|((with_reducible apply TX.region);(focus (simp only [zl]<;>exact rfl));(focus rfl);(try dsimp only))|((with_reducible apply TX.cond_true);(focus rfl);(focus (first|rfl|(simp only [z1,zn,h2];done))))|((with_reducible apply TX.cond_false);(focus rfl);(focus (first|rfl|(simp only [z1,zn,h2];done))))|fail)
      obtain ⟨v12,h3,hr⟩:=bs hr
      apply TO.cal (wn T) rfl goFn133 (array_heard_seated_spec h3) rfl rfl rfl
      repeat exact sd T
      refine wa_ T (g:=?_)
      rcases ifs hr with ⟨h4,hr⟩|⟨h4,hr⟩
      · have T:=an h4 T
        refine wa_ T (g:=?_)
        cases hr
        refine ⟨.inr rfl,_,(ry T),?_⟩
        exact wk_ T [] rfl .nil
      · have T:=an h4 T
        refine wa_ T (g:=?_)
        refine TX.unroll ?_
        refine wa_ T (g:=?_)
        cases hr
        refine ⟨.inr rfl,_,(ry T),?_⟩
        exact wk_ T [] rfl .nil
  rfl

end Go.Rex

namespace Go.Rex
open Go.Proofs
open Go Go.Rex Go.RowKit
set_option maxRecDepth 100000
set_option maxHeartbeats 200000
def y24:=@ag3
theorem array_root_c1_d3d3_spec {v1 : Int} {v2 : Int} {v3 : Bool} (hr : array_root_c1_d3d3 v1 v2 = some (v3)) : Spec (lim Tryz.prog) 167 [.v (.int .i64 v1),.fptr true [.v (.int .i64 v2)] 0] ⟨[.v (.bool v3)],[]⟩:=by
  unfold array_root_c1_d3d3 at hr
  have T:=y24
  apply Spec.fn Tryz.func167 rfl
  focus (simp [Tryz.f167]<;>exact rfl)
  focus
    refine wA T (g:=?_)
    cases hr
    refine ⟨.inr rfl,_,(ry T),?_⟩
    exact wr [] rfl .nil
  rfl

end Go.Rex

namespace Go.Rex
open Go.Proofs
open Go Go.Rex Go.RowKit
set_option maxRecDepth 100000
set_option maxHeartbeats 200000
def y25:=an @un219 <| @un3
theorem sort_Search_2a44_spec {v1 : Int} {v2 : Int} {v3 : Int} (hr : sort_Search_2a44 v1 v2 = some (v3)) : Spec (lim Tryz.prog) 166 [.v (.int .i64 v1),.func 167 [] [.fptr true [.v (.int .i64 v2)] 0]] ⟨[.v (.int .i64 v3)],[]⟩:=by
  unfold sort_Search_2a44 at hr
  have T:=y25
  apply Spec.fn Tryz.func166 rfl
  focus (simp [Tryz.f166]<;>exact rfl)
  focus
    refine wa_ T (g:=?_)
    obtain ⟨v11,h9,hr⟩:=bs hr
    refine TX.loopE (step:=sort_Search_2a44_l1 v2) (x:=(0,v1)) h9 (fun (v4,v5)=>⟨.junk :: .func 167 [] [.fptr true [.v (.int .i64 v2)] 0] :: .junk :: .junk :: .junk :: .v (.int .i64 v4) :: .v (.int .i64 v5) :: .junk :: .junk :: .junk :: .junk :: .junk :: .junk :: .junk :: .junk :: .junk :: .junk :: .junk :: .junk :: .junk :: .junk :: .junk :: .junk :: .junk :: .junk :: .junk :: [],[]⟩) (fun v8=>(.exit 0,⟨.junk :: .junk :: .junk :: .junk :: .junk :: .v (.int .i64 v8) :: .junk :: .junk :: .junk :: .junk :: .junk :: .junk :: .junk :: .junk :: .junk :: .junk :: .junk :: .junk :: .junk :: .junk :: .junk :: .junk :: .junk :: .junk :: .junk :: .junk :: [],[]⟩)) ?_ ?_ ?_ ?_
    · rintro ⟨v4,v5⟩ v0 hr
      dsimp only [sort_Search_2a44_l1] at hr
      try dsimp only
      refine wa_ T (g:=?_)
      rcases ifs hr with ⟨h5,hr⟩|⟨h5,hr⟩
      · have T:=an h5 T
        refine wa_ T (g:=?_)
        apply TO.pop1 (wn T) (cvt_int_int un3 un219 rfl)
        repeat exact sd T
        refine wa_ T (g:=?_)
        obtain ⟨v9,h6,hr⟩:=bs hr
        apply TO.pop1 (wn T) (pop_shift rfl rfl (by decide) (h6))
        repeat exact sd T
        refine wa_ T (g:=?_)
        apply TO.pop1 (wn T) (cvt_int_int un219 un3 rfl)
        repeat exact sd T
        refine wa_ T (g:=?_)
        obtain ⟨v10,h7,hr⟩:=bs hr
        apply TO.cal (wn T) rfl goFn167 (array_root_c1_d3d3_spec h7) rfl rfl rfl
        repeat exact sd T
        refine wa_ T (g:=?_)
        apply TO.pop1 (wn T) (pop_not rfl)
        repeat exact sd T
        refine wa_ T (g:=?_)
        rcases ifs hr with ⟨h8,hr⟩|⟨h8,hr⟩
        · have T:=an h8 T
          refine wa_ T (g:=?_)
          cases hr
          refine ⟨rfl,?_⟩
          exact wk_ T [] rfl .nil
        · have T:=an h8 T
          refine wa_ T (g:=?_)
          cases hr
          refine ⟨rfl,?_⟩
          exact wk_ T [] rfl .nil
      · have T:=an h5 T
        refine wa_ T (g:=?_)
        cases hr
        refine ⟨rfl,?_⟩
        exact wk_ T [] rfl .nil
    · intro e h;cases h
    · try dsimp only
      refine wa_ T (g:=?_)
      cases hr
      refine ⟨.inr rfl,_,(ry T),?_⟩
      exact wr [] rfl .nil
    · try dsimp only
      exact wr [] rfl .nil
  rfl

end Go.Rex

namespace Go.Rex
open Go.Proofs
open Go Go.Rex Go.RowKit
set_option maxRecDepth 100000
set_option maxHeartbeats 200000
def y26:=an @ag3 <| an @ag45 <| an @cs45 <| an @ok45 <| an @st45 <| @zc45
theorem array_root_spec {v1 : Int} {v2 : Int} {v3 : Int} (hr : array_root v1 = some (v2,v3)) : Spec (lim Tryz.prog) 140 [.v (.int .i64 v1)] ⟨[.agg [.v (.int .i64 v2),.v (.int .i64 v3)]],[]⟩:=by
  unfold array_root at hr
  have T:=y26
  apply Spec.fn Tryz.func140 rfl
  focus (simp [Tryz.f140]<;>exact rfl)
  focus
    refine wb_ T (g:=?_)
    obtain ⟨v4,h1,hr⟩:=bs hr
    apply TO.cal (wn T) rfl goFn166 (sort_Search_2a44_spec h1) rfl rfl rfl
    repeat exact sd T
    refine wA T (g:=?_)
    rcases ifs hr with ⟨h2,hr⟩|⟨h2,hr⟩
    · have T:=an h2 T
      refine wa_ T (g:=?_)
      cases hr
      refine ⟨.inr rfl,_,(ry T),?_⟩
      exact wk_ T [] rfl .nil
    · have T:=an h2 T
      refine wa_ T (g:=?_)
      cases hr
      refine ⟨.inr rfl,_,(ry T),?_⟩
      exact wk_ T [] rfl .nil
  rfl

end Go.Rex

namespace Go.Rex
open Go.Proofs
open Go Go.Rex Go.RowKit
set_option maxRecDepth 100000
set_option maxHeartbeats 200000
def y27:=an @ag129 <| an @ag45 <| an @cs129 <| an @cs45 <| an @ok129 <| an @ok45 <| @zc45
theorem array_way_length_spec {v1 : Int} {v2 : Int} {v3 : Int} {v4 : Int} {v5 : Int} {v6 : Int} {v7 : Int} {v8 : Int} (hr : array_way_length v1 v2 v3 v4 v5 v6 = some (v7,v8)) : Spec (lim Tryz.prog) 129 [.agg [.v (.int .i64 v1),.v (.int .i64 v2),.v (.int .i64 v3),.v (.int .i64 v4),.v (.int .i64 v5),.v (.int .i64 v6)]] ⟨[.agg [.v (.int .i64 v7),.v (.int .i64 v8)]],[]⟩:=by
  unfold array_way_length at hr
  have T:=y27
  apply Spec.fn Tryz.func129 rfl
  focus (simp [Tryz.f129]<;>exact rfl)
  focus
    refine wB T (g:=?_)
    obtain ⟨v9,h1,hr⟩:=bs hr
    apply TO.cal (wn T) rfl goFn131 (array_way_square_spec h1) rfl rfl rfl
    repeat exact sd T
    refine wa_ T (g:=?_)
    obtain ⟨⟨v10,v11⟩,h2,hr⟩:=bs hr
    try dsimp only at hr
    apply TO.cal (wn T) rfl goFn140 (array_root_spec h2) rfl rfl rfl
    repeat exact sd T
    refine wa_ T (g:=?_)
    cases hr
    refine ⟨.inr rfl,_,(ry T),?_⟩
    exact wr [] rfl .nil
  rfl

end Go.Rex

namespace Go.Rex
open Go.Proofs
open Go Go.Rex Go.RowKit
set_option maxRecDepth 100000
set_option maxHeartbeats 200000
theorem array_up_spec {v1 : Int} {v2 : Int} {v3 : Int} (hr : array_up v1 v2 = some (v3)) : Spec (lim Tryz.prog) 132 [.v (.int .i64 v1),.v (.int .i64 v2)] ⟨[.v (.int .i64 v3)],[]⟩:=by
  unfold array_up at hr
  have T:=trivial
  apply Spec.fn Tryz.func132 rfl
  focus (simp [Tryz.f132]<;>exact rfl)
  focus
    refine wa_ T (g:=?_)
    by_cases h1 : v2 = 0
    · rw [if_pos h1] at hr
      cases hr
    · rw [if_neg h1] at hr
      have T:=an h1 T
      refine wa_ T (g:=?_)
      cases hr
      refine ⟨.inr rfl,_,(ry T),?_⟩
      exact wr [] rfl .nil
  rfl

end Go.Rex

namespace Go.Rex
open Go.Proofs
open Go Go.Rex Go.RowKit
set_option maxRecDepth 100000
set_option maxHeartbeats 200000
def y28:=an @ag3 <| an @ag45 <| an @cs45 <| an @fd45_0 <| an @fd45_1 <| an @ok45 <| an @st45 <| @zc45
theorem array_scaled_spec {v1 : Int} {v2 : Int} {v3 : Int} {v4 : Int} {v5 : Int} {v6 : Int} (hr : array_scaled v1 v2 v3 v4 = some (v5,v6)) : Spec (lim Tryz.prog) 128 [.agg [.v (.int .i64 v1),.v (.int .i64 v2)],.v (.int .i64 v3),.v (.int .i64 v4)] ⟨[.agg [.v (.int .i64 v5),.v (.int .i64 v6)]],[]⟩:=by
  unfold array_scaled at hr
  have T:=y28
  apply Spec.fn Tryz.func128 rfl
  focus (simp [Tryz.f128]<;>exact rfl)
  focus
    refine wB T (g:=?_)
    by_cases h1 : v4 = 0
    · rw [if_pos h1] at hr
      cases hr
    · rw [if_neg h1] at hr
      have T:=an h1 T
      refine wA T (g:=?_)
      obtain ⟨v7,h2,hr⟩:=bs hr
      apply TD.cal (wn T) rfl goFn132 (array_up_spec h2) rfl rfl rfl
      repeat exact sd T
      refine wa_ T (g:=?_)
      cases hr
      refine ⟨.inr rfl,_,(ry T),?_⟩
      exact wr [] rfl .nil
  rfl

end Go.Rex

namespace Go.Rex
open Go.Proofs
open Go Go.Rex Go.RowKit
set_option maxRecDepth 100000
set_option maxHeartbeats 200000
theorem array_way_numbers_c1_spec {v1 : Int} {v2 : Int} (hr : array_way_numbers_c1 v1 = some (v2)) : Spec (lim Tryz.prog) 130 [.v (.int .i64 v1)] ⟨[.v (.int .i64 v2)],[]⟩:=by
  unfold array_way_numbers_c1 at hr
  have T:=trivial
  apply Spec.fn Tryz.func130 rfl
  focus (simp [Tryz.f130]<;>exact rfl)
  focus
    refine wa_ T (g:=?_)
    cases hr
    refine ⟨.inr rfl,_,(ry T),?_⟩
    exact wr [] rfl .nil
  rfl

end Go.Rex

namespace Go.Rex
open Go.Proofs
open Go Go.Rex Go.RowKit
set_option maxRecDepth 100000
set_option maxHeartbeats 200000
def y29:=an @ag129 <| an @ag3 <| an @ag45 <| an @cs129 <| an @cs45 <| an @fd43_0 <| an @fd43_1 <| an @fd45_0 <| an @fd45_1 <| an @ok129 <| an @ok45 <| an @st45 <| @zc45
theorem array_way_numbers_spec {v1 : Int} {v2 : Int} {v3 : Int} {v4 : Int} {v5 : Int} {v6 : Int} {v7 : Int} {v8 : Int} {v9 : Int} {v10 : Int} (hr : array_way_numbers v1 v2 v3 v4 v5 v6 v7 v8 = some (v9,v10)) : Spec (lim Tryz.prog) 76 [.agg [.v (.int .i64 v1),.v (.int .i64 v2),.v (.int .i64 v3),.v (.int .i64 v4),.v (.int .i64 v5),.v (.int .i64 v6)],.agg [.v (.int .i64 v7),.v (.int .i64 v8)]] ⟨[.agg [.v (.int .i64 v9),.v (.int .i64 v10)]],[]⟩:=by
  unfold array_way_numbers at hr
  have T:=y29
  apply Spec.fn Tryz.func76 rfl
  focus (simp [Tryz.f76]<;>exact rfl)
  focus
    refine wB T (g:=?_)
    obtain ⟨⟨v11,v12⟩,h1,hr⟩:=bs hr
    try dsimp only at hr
    apply TD.cal (wn T) rfl goFn129 (array_way_length_spec h1) rfl rfl rfl
    repeat exact sd T
    refine wA T (g:=?_)
    obtain ⟨⟨v13,v14⟩,h2,hr⟩:=bs hr
    try dsimp only at hr
    apply TD.cal (wn T) rfl goFn128 (array_scaled_spec h2) rfl rfl rfl
    repeat exact sd T
    refine wA T (g:=?_)
    obtain ⟨v15,h3,hr⟩:=bs hr
    apply TD.cal (wn T) rfl goFn130 (array_way_numbers_c1_spec h3) rfl rfl rfl
    repeat exact sd T
    refine wA T (g:=?_)
    obtain ⟨v16,h4,hr⟩:=bs hr
    apply TD.cal (wn T) rfl goFn130 (array_way_numbers_c1_spec h4) rfl rfl rfl
    repeat exact sd T
    refine wa_ T (g:=?_)
    cases hr
    refine ⟨.inr rfl,_,(ry T),?_⟩
    exact wr [] rfl .nil
  rfl

end Go.Rex

namespace Go.Rex
open Go.Proofs
open Go Go.Rex Go.RowKit
set_option maxRecDepth 100000
set_option maxHeartbeats 200000
def y30:=an @ag129 <| an @ag3 <| an @ag45 <| an @cs129 <| an @cs45 <| an @fd45_0 <| an @fd45_1 <| an @ok129 <| an @ok45 <| an @st45 <| @zc45
theorem array_way_strength_spec {v1 : Int} {v2 : Int} {v3 : Int} {v4 : Int} {v5 : Int} {v6 : Int} {v7 : Int} {v8 : Int} (hr : array_way_strength v1 v2 v3 v4 v5 v6 = some (v7,v8)) : Spec (lim Tryz.prog) 78 [.agg [.v (.int .i64 v1),.v (.int .i64 v2),.v (.int .i64 v3),.v (.int .i64 v4),.v (.int .i64 v5),.v (.int .i64 v6)]] ⟨[.agg [.v (.int .i64 v7),.v (.int .i64 v8)]],[]⟩:=by
  unfold array_way_strength at hr
  have T:=y30
  apply Spec.fn Tryz.func78 rfl
  focus (simp [Tryz.f78]<;>exact rfl)
  focus
    refine wB T (g:=?_)
    obtain ⟨⟨v9,v10⟩,h1,hr⟩:=bs hr
    try dsimp only at hr
    apply TO.cal (wn T) rfl goFn129 (array_way_length_spec h1) rfl rfl rfl
    repeat exact sd T
    refine wA T (g:=?_)
    by_cases h2 : v10 = 0
    · rw [if_pos h2] at hr
      cases hr
    · rw [if_neg h2] at hr
      have T:=an h2 T
      refine wA T (g:=?_)
      obtain ⟨v11,h3,hr⟩:=bs hr
      apply TD.cal (wn T) rfl goFn132 (array_up_spec h3) rfl rfl rfl
      repeat exact sd T
      refine wa_ T (g:=?_)
      cases hr
      refine ⟨.inr rfl,_,(ry T),?_⟩
      exact wr [] rfl .nil
  rfl

end Go.Rex

namespace Go.Rex
open Go.Proofs
open Go Go.Rex Go.RowKit
set_option maxRecDepth 100000
set_option maxHeartbeats 200000
def y31:=an @ag118 <| an @ag129 <| an @ag137 <| an @ag22 <| an @ag40 <| an @by190 <| an @cs118 <| an @cs129 <| an @cs137 <| an @cs190 <| an @cs40 <| an @fd118_0 <| an @fd137_0 <| an @fd24_2 <| an @ni187 <| an @ok118 <| an @ok129 <| an @ok137 <| an @ok40 <| an @so187 <| an @so22 <| an @st190 <| an @zc129 <| an @zc190 <| an @zc40 <| @wi64_0a1
theorem array_heard_parts_spec {v1 : Int} {v2 : Int} {v3 : (List (Int × Int × Int × Int × Int))} {v4 : Int} {v5 : Int} {v6 : Int} {v7 : (List (Int × Int × Int × Int × Int × Int × Int × Int × Int))} (hr : array_heard_parts v1 v2 v3 v4 v5 v6 = some (v7)) : Spec (lim Tryz.prog) 134 [.agg [.v (.int .i64 v1),.v (.int .i64 v2),.list 5 (v3.map e_iiiii),.v (.int .i64 v4),.v (.int .i64 v5),.v (.int .i64 v6)]] ⟨[.lsl 0 0 v7.length],[.rows 9 (v7.map e_iiiiiiiii)]⟩:=by
  unfold array_heard_parts at hr
  have T:=an y31 <| an @e_iiiii.eq_1 <| @e_iiiiiiiii.eq_1
  apply Spec.fn Tryz.func134 rfl
  focus (simp [Tryz.f134]<;>exact rfl)
  focus
    refine wD T (g:=?_)
    apply TX.vt (α:=(Int × Int × Int × Int × Int × Int × Int × Int × Int)) e_iiiiiiiii 3 9 rfl
    repeat exact sd T
    with_reducible apply TX.here
    refine wa_ T (g:=?_)
    obtain ⟨v47,h15,hr⟩:=bs hr
    refine TX.loopE (step:=array_heard_parts_l1 v1 v2 v3 v4 v5 v6) (x:=(([] : List (Int × Int × Int × Int × Int × Int × Int × Int × Int)),0)) h15 (fun (v8,v9)=>⟨.junk :: .fptr true [.v (.int .i64 v1),.v (.int .i64 v2),.list 5 (v3.map e_iiiii),.v (.int .i64 v4),.v (.int .i64 v5),.v (.int .i64 v6)] 0 :: .junk :: .lsl 0 0 v8.length :: .junk :: .junk :: .junk :: .junk :: .junk :: .junk :: .list 5 (v3.map e_iiiii) :: .v (.int .i64 (v3.length : Int)) :: .v (.int .i64 v9) :: .junk :: .junk :: .junk :: .junk :: .junk :: .junk :: .junk :: .junk :: .junk :: .junk :: .junk :: .junk :: .junk :: .junk :: .junk :: .junk :: .junk :: .junk :: .junk :: .junk :: [],[.rows 9 (v8.map e_iiiiiiiii)]⟩) (fun v28=>(.exit 0,⟨.junk :: .junk :: .junk :: .lsl 0 0 v28.length :: .junk :: .junk :: .junk :: .junk :: .junk :: .junk :: .junk :: .junk :: .junk :: .junk :: .junk :: .junk :: .junk :: .junk :: .junk :: .junk :: .junk :: .junk :: .junk :: .junk :: .junk :: .junk :: .junk :: .junk :: .junk :: .junk :: .junk :: .junk :: .junk :: [],[.rows 9 (v28.map e_iiiiiiiii)]⟩)) ?_ ?_ ?_ ?_
    · rintro ⟨v8,v9⟩ v0 hr
      dsimp only [array_heard_parts_l1] at hr
      try dsimp only
      refine wa_ T (g:=?_)
      rcases ifs hr with ⟨h8,hr⟩|⟨h8,hr⟩
      · have T:=an h8 T
        refine wa_ T (g:=?_)
        obtain ⟨⟨v29,v30,v31,v32,v33⟩,h9,hr⟩:=bs hr
        try dsimp only at hr
        have h9m:=tidx_map (f:=e_iiiii) h9
        have h9l:=getI_lt h9
        try simp only [List.length_set] at h9l
        have h9a:=getI_at h9
        have T:=an h9m T
        have T:=an h9l T
        have T:=an h9a T
        refine wA T (g:=?_)
        obtain ⟨⟨v34,v35,v36,v37,v38,v39⟩,h10,hr⟩:=bs hr
        try dsimp only at hr
        apply TO.cal (wn T) rfl goFn164 (array_heard_wayFrom_spec h10) rfl rfl rfl
        repeat exact sd T
        refine wA T (g:=?_)
        obtain ⟨⟨v40,v41⟩,h11,hr⟩:=bs hr
        try dsimp only at hr
        apply TD.cal (wn T) rfl goFn65 (array_rig_sound_spec h11) rfl rfl rfl
        repeat exact sd T
        refine wa_ T (g:=?_)
        obtain ⟨⟨v42,v43⟩,h12,hr⟩:=bs hr
        try dsimp only at hr
        apply TD.cal (wn T) rfl goFn76 (array_way_numbers_spec h12) rfl rfl rfl
        repeat exact sd T
        refine wA T (g:=?_)
        obtain ⟨⟨v44,v45⟩,h13,hr⟩:=bs hr
        try dsimp only at hr
        apply TD.cal (wn T) rfl goFn78 (array_way_strength_spec h13) rfl rfl rfl
        repeat exact sd T
        refine wa_ T (g:=?_)
        apply TD.bm e_iiiiiiiii ([(v29,v30,v31,v32,v33,v42,v43,v44,v45)] : List (Int × Int × Int × Int × Int × Int × Int × Int × Int)) (wn T) rfl (by simp only [zz,y31,e_iiiii,e_iiiiiiiii,Nat.reduceAdd,Nat.reduceMul,Nat.reduceLeDiff,Nat.reduceEqDiff,tslice,tparts,h8,h9m,h9l,h9a];exact rfl) rfl
        repeat exact sd T
        refine wa_ T (g:=?_)
        obtain ⟨v46,h14,hr⟩:=bs hr
        apply TD.ap (f:=e_iiiiiiiii) (xs:=v8) (ys:=([(v29,v30,v31,v32,v33,v42,v43,v44,v45)] : List (Int × Int × Int × Int × Int × Int × Int × Int × Int))) (wn T) rfl rfl (by first|rfl|simp only [List.length_set]) rfl rfl so187 ni187 zc190 rfl (by rw [by190];exact h14) (fun _=>⟨rfl,rfl,rfl⟩) rfl
        repeat exact sd T
        refine wa_ T (g:=?_)
        cases hr
        refine ⟨rfl,?_⟩
        exact wk_ T [some 0] rfl (.rows .nil rfl rfl)
      · have T:=an h8 T
        refine wa_ T (g:=?_)
        cases hr
        refine ⟨rfl,?_⟩
        exact wk_ T [some 0] rfl (.rows .nil rfl rfl)
    · intro e h;cases h
    · try dsimp only
      refine wa_ T (g:=?_)
      cases hr
      refine ⟨.inr rfl,_,(ry T),?_⟩
      exact wr [some 0] rfl (.rows .nil rfl rfl)
    · try dsimp only
      exact wr [some 0] rfl (.rows .nil rfl rfl)
  rfl

end Go.Rex

namespace Go.Rex
open Go.Proofs
open Go Go.Rex Go.RowKit
set_option maxRecDepth 100000
set_option maxHeartbeats 200000
def y32:=an @ag3 <| an @ag55 <| an @ar231 <| an @cs231 <| an @cs55 <| an @fd190_0 <| an @fd40_1 <| an @fd40_2 <| an @ok231 <| an @ok55 <| an @so231 <| an @st231 <| an @un145 <| an @un3 <| @zc231
theorem array_part_share_spec {v1 : Int} {v2 : Int} {v3 : Int} {v4 : Int} {v5 : Int} {v6 : Int} {v7 : Int} {v8 : Int} {v9 : Int} {v10 : Int} {v11 : Int} {v12 : Nat} {v13 : Nat} (hr : array_part_share v1 v2 v3 v4 v5 v6 v7 v8 v9 v10 v11 = some (v12,v13)) : Spec (lim Tryz.prog) 165 [.agg [.v (.int .i64 v1),.v (.int .i64 v2),.v (.int .i64 v3),.v (.int .i64 v4),.v (.int .i64 v5),.v (.int .i64 v6),.v (.int .i64 v7),.v (.int .i64 v8),.v (.int .i64 v9)],.v (.int .i64 v10),.v (.int .i64 v11)] ⟨[.v (.complex .f64 v12 v13)],[]⟩:=by
  unfold array_part_share at hr
  have T:=an y32 <| @e_z.eq_1
  apply Spec.fn Tryz.func165 rfl
  focus (simp [Tryz.f165]<;>exact rfl)
  focus
    refine wB T (g:=?_)
    apply TD.pop1 (wn T) (cvt_int_float un3 un145 rfl)
    repeat exact sd T
    refine wa_ T (g:=?_)
    apply TD.pop1 (wn T) (pop_complex64 rfl rfl)
    repeat exact sd T
    refine wA T (g:=?_)
    obtain ⟨⟨v14,v15⟩,h1,hr⟩:=bs hr
    try dsimp only at hr
    have h1l:=getI_lt h1
    refine wa_ T (g:=?_)
    have T:=an h1l T
    apply TD.pop1 (wn T) (iaA (xs:=([(4607182418800017408,0),(0,13830554455654793216),(13830554455654793216,0),(0,4607182418800017408)] : List (Nat × Nat))) h1 rfl rfl so231 ar231 rfl ok55 cs55)
    repeat exact sd T
    refine wa_ T (g:=?_)
    apply TD.ld (wn T) rfl (ldx_ok (f:=e_z) (xs:=([(4607182418800017408,0),(0,13830554455654793216),(13830554455654793216,0),(0,4607182418800017408)] : List (Nat × Nat))) h1 rfl rfl (fun _=>rfl) cs55 (by first|exact .inl ⟨ag55,ok55,rfl⟩|exact .inr ⟨ag55,rfl,rfl⟩))
    repeat exact sd T
    refine wa_ T (g:=?_)
    obtain ⟨⟨v16,v17⟩,h2,hr⟩:=bs hr
    try dsimp only at hr
    apply TD.pop1 (wn T) (pop_cmul rfl rfl (h2))
    repeat exact sd T
    refine wa_ T (g:=?_)
    cases hr
    refine ⟨.inr rfl,_,(ry T),?_⟩
    exact wr [] rfl .nil
  rfl

end Go.Rex

namespace Go.Rex
open Go.Proofs
open Go Go.Rex Go.RowKit
set_option maxRecDepth 100000
set_option maxHeartbeats 200000
def y33:=an @ag190 <| an @ag3 <| an @cs190 <| an @fd190_1 <| an @fd190_2 <| an @fd45_0 <| @ok190
theorem array_part_nominal_spec {v1 : Int} {v2 : Int} {v3 : Int} {v4 : Int} {v5 : Int} {v6 : Int} {v7 : Int} {v8 : Int} {v9 : Int} {v10 : Nat} {v11 : Nat} (hr : array_part_nominal v1 v2 v3 v4 v5 v6 v7 v8 v9 = some (v10,v11)) : Spec (lim Tryz.prog) 135 [.agg [.v (.int .i64 v1),.v (.int .i64 v2),.v (.int .i64 v3),.v (.int .i64 v4),.v (.int .i64 v5),.v (.int .i64 v6),.v (.int .i64 v7),.v (.int .i64 v8),.v (.int .i64 v9)]] ⟨[.v (.complex .f64 v10 v11)],[]⟩:=by
  unfold array_part_nominal at hr
  have T:=y33
  apply Spec.fn Tryz.func135 rfl
  focus (simp [Tryz.f135]<;>exact rfl)
  focus
    refine wB T (g:=?_)
    obtain ⟨⟨v12,v13⟩,h1,hr⟩:=bs hr
    try dsimp only at hr
    apply TO.cal (wn T) rfl goFn165 (array_part_share_spec h1) rfl rfl rfl
    repeat exact sd T
    refine wa_ T (g:=?_)
    cases hr
    refine ⟨.inr rfl,_,(ry T),?_⟩
    exact wr [] rfl .nil
  rfl

end Go.Rex

namespace Go.Rex
open Go.Proofs
open Go Go.Rex Go.RowKit
set_option maxRecDepth 100000
set_option maxHeartbeats 200000
def y34:=an @ag137 <| an @ag190 <| an @cs137 <| an @cs190 <| an @ok137 <| an @ok190 <| an @so187 <| an @zc190 <| @wi64_0a1
theorem array_heard_pressure_spec {v1 : Int} {v2 : Int} {v3 : (List (Int × Int × Int × Int × Int))} {v4 : Int} {v5 : Int} {v6 : Int} {v7 : Nat} {v8 : Nat} (hr : array_heard_pressure v1 v2 v3 v4 v5 v6 = some (v7,v8)) : Spec (lim Tryz.prog) 84 [.agg [.v (.int .i64 v1),.v (.int .i64 v2),.list 5 (v3.map e_iiiii),.v (.int .i64 v4),.v (.int .i64 v5),.v (.int .i64 v6)]] ⟨[.v (.complex .f64 v7 v8)],[]⟩:=by
  unfold array_heard_pressure at hr
  have T:=an y34 <| an @e_iiiii.eq_1 <| @e_iiiiiiiii.eq_1
  apply Spec.fn Tryz.func84 rfl
  focus (simp [Tryz.f84]<;>exact rfl)
  focus
    refine wB T (g:=?_)
    obtain ⟨v9,h1,hr⟩:=bs hr
    apply TO.cal (wn T) rfl goFn134 (array_heard_parts_spec h1) rfl rfl rfl
    repeat exact sd T
    refine wc_ T (g:=?_)
    obtain ⟨⟨v41,v42⟩,h12,hr⟩:=bs hr
    try dsimp only at hr
    refine TX.loopE (step:=array_heard_pressure_l1 v9) (x:=(0,0,0)) h12 (fun (v10,v11,v12)=>⟨.junk :: .junk :: .junk :: .v (.complex .f64 v10 v11) :: .junk :: .junk :: .junk :: .lsl 0 0 v9.length :: .v (.int .i64 (v9.length : Int)) :: .v (.int .i64 v12) :: .junk :: .junk :: .junk :: .junk :: .junk :: .junk :: .junk :: .junk :: .junk :: [],[.rows 9 (v9.map e_iiiiiiiii)]⟩) (fun (v26,v27)=>(.exit 0,⟨.junk :: .junk :: .junk :: .v (.complex .f64 v26 v27) :: .junk :: .junk :: .junk :: .junk :: .junk :: .junk :: .junk :: .junk :: .junk :: .junk :: .junk :: .junk :: .junk :: .junk :: .junk :: [],[]⟩)) ?_ ?_ ?_ ?_
    · rintro ⟨v10,v11,v12⟩ v0 hr
      dsimp only [array_heard_pressure_l1] at hr
      try dsimp only
      refine wa_ T (g:=?_)
      rcases ifs hr with ⟨h7,hr⟩|⟨h7,hr⟩
      · have T:=an h7 T
        refine wa_ T (g:=?_)
        obtain ⟨⟨v28,v29,v30,v31,v32,v33,v34,v35,v36⟩,h8,hr⟩:=bs hr
        try dsimp only at hr
        have T:=an (gx e_iiiiiiiii h8) T
        refine wA T (g:=?_)
        obtain ⟨⟨v37,v38⟩,h9,hr⟩:=bs hr
        try dsimp only at hr
        apply TO.cal (wn T) rfl goFn135 (array_part_nominal_spec h9) rfl rfl rfl
        repeat exact sd T
        refine wa_ T (g:=?_)
        obtain ⟨v39,h10,hr⟩:=bs hr
        skip
        obtain ⟨v40,h11,hr⟩:=bs hr
        apply TO.pop1 (wn T) (pop_carith rfl rfl (by decide) (h10) (h11))
        repeat exact sd T
        refine wa_ T (g:=?_)
        cases hr
        refine ⟨rfl,?_⟩
        exact wk_ T [some 0] rfl (.rows .nil rfl rfl)
      · have T:=an h7 T
        refine wa_ T (g:=?_)
        cases hr
        refine ⟨rfl,?_⟩
        exact wk_ T [] rfl .nil
    · intro e h;cases h
    · try dsimp only
      refine wa_ T (g:=?_)
      cases hr
      refine ⟨.inr rfl,_,(ry T),?_⟩
      exact wr [] rfl .nil
    · try dsimp only
      exact wr [some 0] rfl (.rows .nil rfl rfl)
  rfl

end Go.Rex

namespace Go.Rex
open Go.Proofs
open Go Go.Rex Go.RowKit
set_option maxRecDepth 100000
set_option maxHeartbeats 200000
def y35:=an @ag118 <| an @ag137 <| an @ag24 <| an @ag38 <| an @cs118 <| an @cs121 <| an @cs137 <| an @cs24 <| an @cs38 <| an @fd137_0 <| an @ok118 <| an @ok137 <| an @ok24 <| an @ok38 <| an @so182 <| an @st118 <| an @st137 <| an @zc118 <| an @zc121 <| @zc137
theorem array_told_complex128_eda1_spec {v1 : Int} {v2 : Int} {v3 : (List (Int × Int × Int × Int × Int))} {v4 : Int} {v5 : Int} {v6 : Int} {v7 : Nat} {v8 : Nat} {v9 : Int} (hr : array_told_complex128_eda1 v1 v2 v3 v4 v5 v6 = some (v7,v8,v9)) : Spec (lim Tryz.prog) 83 [.agg [.v (.int .i64 v1),.v (.int .i64 v2),.list 5 (v3.map e_iiiii)],.agg [.v (.int .i64 v4),.v (.int .i64 v5),.v (.int .i64 v6)],.func 84 [] []] ⟨[.tuple [.v (.complex .f64 v7 v8),.v (.int .i64 v9)]],[]⟩:=by
  unfold array_told_complex128_eda1 at hr
  have T:=an y35 <| @e_iiiii.eq_1
  apply Spec.fn Tryz.func83 rfl
  focus (simp [Tryz.f83]<;>exact rfl)
  focus
    refine wF T (g:=?_)
    obtain ⟨v10,h1,hr⟩:=bs hr
    apply TO.cal (wn T) rfl goFn63 (array_firstError_05b8_spec h1) rfl rfl rfl
    repeat exact sd T
    refine wa_ T (g:=?_)
    rcases ifs hr with ⟨h2,hr⟩|⟨h2,hr⟩
    · have T:=an h2 T
      refine wa_ T (g:=?_)
      cases hr
      refine ⟨.inr rfl,_,(ry T),?_⟩
      exact wk_ T [] rfl .nil
    · have T:=an h2 T
      refine wA T (g:=?_)
      obtain ⟨⟨v11,v12⟩,h3,hr⟩:=bs hr
      try dsimp only at hr
      apply TO.cal (wn T) rfl goFn84 (array_heard_pressure_spec h3) rfl rfl rfl
      repeat exact sd T
      refine wa_ T (g:=?_)
      cases hr
      refine ⟨.inr rfl,_,(ry T),?_⟩
      exact wk_ T [] rfl .nil
  rfl

end Go.Rex

namespace Go.Rex
open Go.Proofs
open Go Go.Rex Go.RowKit
set_option maxRecDepth 100000
set_option maxHeartbeats 200000
def y36:=an @ag24 <| an @ag38 <| an @cs24 <| an @cs38 <| an @ok24 <| @ok38
theorem array_PressureAt_spec {v1 : Int} {v2 : Int} {v3 : (List (Int × Int × Int × Int × Int))} {v4 : Int} {v5 : Int} {v6 : Int} {v7 : Nat} {v8 : Nat} {v9 : Int} (hr : array_PressureAt v1 v2 v3 v4 v5 v6 = some (v7,v8,v9)) : Spec (lim Tryz.prog) 28 [.agg [.v (.int .i64 v1),.v (.int .i64 v2),.list 5 (v3.map e_iiiii)],.agg [.v (.int .i64 v4),.v (.int .i64 v5),.v (.int .i64 v6)]] ⟨[.tuple [.v (.complex .f64 v7 v8),.v (.int .i64 v9)]],[]⟩:=by
  unfold array_PressureAt at hr
  have T:=an y36 <| @e_iiiii.eq_1
  apply Spec.fn Tryz.func28 rfl
  focus (simp [Tryz.f28]<;>exact rfl)
  focus
    refine wB T (g:=?_)
    obtain ⟨⟨v10,v11,v12⟩,h1,hr⟩:=bs hr
    try dsimp only at hr
    apply TO.cal (wn T) rfl goFn83 (array_told_complex128_eda1_spec h1) rfl rfl rfl
    repeat exact sd T
    refine wa_ T (g:=?_)
    cases hr
    refine ⟨.inr rfl,_,(ry T),?_⟩
    exact wr [] rfl .nil
  rfl

end Go.Rex

namespace Go.Rex
open Go.Proofs
open Go Go.Rex Go.RowKit
set_option maxRecDepth 100000
set_option maxHeartbeats 200000
def y37:=@ex91
theorem base_SameBits_spec {v1 : Nat} {v2 : Nat} {v3 : Nat} {v4 : Nat} {v5 : Bool} (hr : base_SameBits v1 v2 v3 v4 = some (v5)) : Spec (lim Tryz.prog) 33 [.v (.complex .f64 v1 v2),.v (.complex .f64 v3 v4)] ⟨[.v (.bool v5)],[]⟩:=by
  unfold base_SameBits at hr
  have T:=y37
  apply Spec.fn Tryz.func33 rfl
  focus (simp [Tryz.f33]<;>exact rfl)
  focus
    refine wa_ T (g:=?_)
    apply TO.pop1 (wn T) (pop_real rfl)
    repeat exact sd T
    refine wa_ T (g:=?_)
    apply TO.ex (wn T) rfl ex91 (by simp only [z1,z3,zl];exact rfl) rfl rfl (rfl) rfl rfl rfl
    repeat exact sd T
    refine wa_ T (g:=?_)
    apply TO.pop1 (wn T) (pop_real rfl)
    repeat exact sd T
    refine wa_ T (g:=?_)
    apply TO.ex (wn T) rfl ex91 (by simp only [z1,z3,zl];exact rfl) rfl rfl (rfl) rfl rfl rfl
    repeat exact sd T
    refine wa_ T (g:=?_)
    rcases ifs hr with ⟨h1,hr⟩|⟨h1,hr⟩
    · have T:=an h1 T
      refine wa_ T (g:=?_)
      apply TO.pop1 (wn T) (pop_imag rfl)
      repeat exact sd T
      refine wa_ T (g:=?_)
      apply TO.ex (wn T) rfl ex91 (by simp only [z1,z3,zl];exact rfl) rfl rfl (rfl) rfl rfl rfl
      repeat exact sd T
      refine wa_ T (g:=?_)
      apply TO.pop1 (wn T) (pop_imag rfl)
      repeat exact sd T
      refine wa_ T (g:=?_)
      apply TO.ex (wn T) rfl ex91 (by simp only [z1,z3,zl];exact rfl) rfl rfl (rfl) rfl rfl rfl
      repeat exact sd T
      refine wa_ T (g:=?_)
      cases hr
      refine ⟨.inr rfl,_,(ry T),?_⟩
      exact wk_ T [] rfl .nil
    · have T:=an h1 T
      refine wa_ T (g:=?_)
      cases hr
      refine ⟨.inr rfl,_,(ry T),?_⟩
      exact wk_ T [] rfl .nil
  rfl

end Go.Rex

namespace Go.Rex
open Go.Proofs
open Go Go.Rex Go.RowKit
set_option maxRecDepth 100000
set_option maxHeartbeats 200000
def y38:=an @ag3 <| an @cs3 <| an @ok3 <| an @so87 <| @wi64_1a1
theorem slices_Min_int_int_spec {v1 : (List Int)} {v2 : Int} (hr : slices_Min_int_int v1 = some (v2)) : Spec (lim Tryz.prog) 105 [.list 1 (v1.map e_i)] ⟨[.v (.int .i64 v2)],[]⟩:=by
  unfold slices_Min_int_int at hr
  have T:=an y38 <| @e_i.eq_1
  apply Spec.fn Tryz.func105 rfl
  focus (simp [Tryz.f105]<;>exact rfl)
  focus
    refine wc_ T (g:=?_)
    rcases ifs hr with ⟨h1,hr⟩|⟨h1,hr⟩
    · cases hr
    · have T:=an h1 T
      refine wa_ T (g:=?_)
      obtain ⟨v3,h2,hr⟩:=bs hr
      have T:=an (gx e_i h2) T
      refine wA T (g:=?_)
      obtain ⟨v9,h7,hr⟩:=bs hr
      refine TX.loopE (step:=slices_Min_int_int_l1 v1) (x:=(v3,1)) h7 (fun (v4,v5)=>⟨.list 1 (v1.map e_i) :: .junk :: .junk :: .v (.int .i64 v4) :: .v (.int .i64 v5) :: .junk :: .junk :: .junk :: .junk :: .junk :: .junk :: .junk :: .junk :: .junk :: .junk :: .junk :: .junk :: .junk :: .junk :: .junk :: .junk :: .junk :: .junk :: .junk :: .junk :: [],[]⟩) (fun v7=>(.exit 0,⟨.junk :: .junk :: .junk :: .v (.int .i64 v7) :: .junk :: .junk :: .junk :: .junk :: .junk :: .junk :: .junk :: .junk :: .junk :: .junk :: .junk :: .junk :: .junk :: .junk :: .junk :: .junk :: .junk :: .junk :: .junk :: .junk :: .junk :: [],[]⟩)) ?_ ?_ ?_ ?_
      · rintro ⟨v4,v5⟩ v0 hr
        dsimp only [slices_Min_int_int_l1] at hr
        try dsimp only
        refine wc_ T (g:=?_)
        rcases ifs hr with ⟨h5,hr⟩|⟨h5,hr⟩
        · have T:=an h5 T
          refine wa_ T (g:=?_)
          obtain ⟨v8,h6,hr⟩:=bs hr
          have T:=an (gx e_i h6) T
          refine wA T (g:=?_)
          apply TO.pop1 (wn T) (pop_min rfl rfl)
          repeat exact sd T
          refine wa_ T (g:=?_)
          cases hr
          refine ⟨rfl,?_⟩
          exact wk_ T [] rfl .nil
        · have T:=an h5 T
          refine wa_ T (g:=?_)
          cases hr
          refine ⟨rfl,?_⟩
          exact wk_ T [] rfl .nil
      · intro e h;cases h
      · try dsimp only
        refine wa_ T (g:=?_)
        cases hr
        refine ⟨.inr rfl,_,(ry T),?_⟩
        exact wk_ T [] rfl .nil
      · try dsimp only
        exact wk_ T [] rfl .nil
  rfl

end Go.Rex

namespace Go.Rex
open Go.Proofs
open Go Go.Rex Go.RowKit
set_option maxRecDepth 100000
set_option maxHeartbeats 200000
def y39:=an @ag3 <| an @cs3 <| an @ok3 <| an @so87 <| @wi64_1a1
theorem slices_Max_int_int_spec {v1 : (List Int)} {v2 : Int} (hr : slices_Max_int_int v1 = some (v2)) : Spec (lim Tryz.prog) 148 [.list 1 (v1.map e_i)] ⟨[.v (.int .i64 v2)],[]⟩:=by
  unfold slices_Max_int_int at hr
  have T:=an y39 <| @e_i.eq_1
  apply Spec.fn Tryz.func148 rfl
  focus (simp [Tryz.f148]<;>exact rfl)
  focus
    refine wc_ T (g:=?_)
    rcases ifs hr with ⟨h1,hr⟩|⟨h1,hr⟩
    · cases hr
    · have T:=an h1 T
      refine wa_ T (g:=?_)
      obtain ⟨v3,h2,hr⟩:=bs hr
      have T:=an (gx e_i h2) T
      refine wA T (g:=?_)
      obtain ⟨v9,h7,hr⟩:=bs hr
      refine TX.loopE (step:=slices_Max_int_int_l1 v1) (x:=(v3,1)) h7 (fun (v4,v5)=>⟨.list 1 (v1.map e_i) :: .junk :: .junk :: .v (.int .i64 v4) :: .v (.int .i64 v5) :: .junk :: .junk :: .junk :: .junk :: .junk :: .junk :: .junk :: .junk :: .junk :: .junk :: .junk :: .junk :: .junk :: .junk :: .junk :: .junk :: .junk :: .junk :: .junk :: .junk :: [],[]⟩) (fun v7=>(.exit 0,⟨.junk :: .junk :: .junk :: .v (.int .i64 v7) :: .junk :: .junk :: .junk :: .junk :: .junk :: .junk :: .junk :: .junk :: .junk :: .junk :: .junk :: .junk :: .junk :: .junk :: .junk :: .junk :: .junk :: .junk :: .junk :: .junk :: .junk :: [],[]⟩)) ?_ ?_ ?_ ?_
      · rintro ⟨v4,v5⟩ v0 hr
        dsimp only [slices_Max_int_int_l1] at hr
        try dsimp only
        refine wc_ T (g:=?_)
        rcases ifs hr with ⟨h5,hr⟩|⟨h5,hr⟩
        · have T:=an h5 T
          refine wa_ T (g:=?_)
          obtain ⟨v8,h6,hr⟩:=bs hr
          have T:=an (gx e_i h6) T
          refine wA T (g:=?_)
          apply TO.pop1 (wn T) (pop_max rfl rfl)
          repeat exact sd T
          refine wa_ T (g:=?_)
          cases hr
          refine ⟨rfl,?_⟩
          exact wk_ T [] rfl .nil
        · have T:=an h5 T
          refine wa_ T (g:=?_)
          cases hr
          refine ⟨rfl,?_⟩
          exact wk_ T [] rfl .nil
      · intro e h;cases h
      · try dsimp only
        refine wa_ T (g:=?_)
        cases hr
        refine ⟨.inr rfl,_,(ry T),?_⟩
        exact wk_ T [] rfl .nil
      · try dsimp only
        exact wk_ T [] rfl .nil
  rfl

end Go.Rex

namespace Go.Rex
open Go.Proofs
open Go Go.Rex Go.RowKit
set_option maxRecDepth 100000
set_option maxHeartbeats 1000000
def y40:=an @ag190 <| an @ag3 <| an @ag58 <| an @ar58 <| an @ar96 <| an @by3 <| an @cs190 <| an @cs3 <| an @cs45 <| an @cs58 <| an @fd190_1 <| an @fd190_2 <| an @fd45_0 <| an @fd45_1 <| an @ni87 <| an @ok190 <| an @ok3 <| an @ok45 <| an @ok58 <| an @so87 <| an @so96 <| an @st45 <| an @st58 <| an @st96 <| an @un145 <| an @un3 <| an @zc3 <| an @zc45 <| an @zc58 <| an @zc96 <| @wi64_0a1
theorem array_part_ends_spec {v1 : Int} {v2 : Int} {v3 : Int} {v4 : Int} {v5 : Int} {v6 : Int} {v7 : Int} {v8 : Int} {v9 : Int} {v10 : Int} {v11 : Int} {v12 : Int} {v13 : Int} (hr : array_part_ends v1 v2 v3 v4 v5 v6 v7 v8 v9 = some (v10,v11,v12,v13)) : Spec (lim Tryz.prog) 136 [.agg [.v (.int .i64 v1),.v (.int .i64 v2),.v (.int .i64 v3),.v (.int .i64 v4),.v (.int .i64 v5),.v (.int .i64 v6),.v (.int .i64 v7),.v (.int .i64 v8),.v (.int .i64 v9)]] ⟨[.agg [.v (.int .i64 v10),.v (.int .i64 v11),.v (.int .i64 v12),.v (.int .i64 v13)]],[]⟩:=by
  unfold array_part_ends at hr
  have T:=an y40 <| @e_i.eq_1
  apply Spec.fn Tryz.func136 rfl
  focus (simp [Tryz.f136]<;>exact rfl)
  focus
    refine wB T (g:=?_)
    apply TX.vt (α:=Int) e_i 3 1 rfl
    repeat exact sd T
    with_reducible apply TX.here
    refine wa_ T (g:=?_)
    apply TX.vt (α:=Int) e_i 4 1 rfl
    repeat exact sd T
    with_reducible apply TX.here
    refine wa_ T (g:=?_)
    obtain ⟨⟨v61,v62⟩,h33,hr⟩:=bs hr
    try dsimp only at hr
    refine TX.loopE (step:=array_part_ends_l1 v1 v2 v3 v4 v5 v6 v7 v8 v9) (x:=(([] : List Int),([] : List Int),v6)) h33 (fun (v14,v15,v16)=>⟨.junk :: .fptr true [.v (.int .i64 v1),.v (.int .i64 v2),.v (.int .i64 v3),.v (.int .i64 v4),.v (.int .i64 v5),.v (.int .i64 v6),.v (.int .i64 v7),.v (.int .i64 v8),.v (.int .i64 v9)] 0 :: .lptr 0 0 0 :: .lsl 1 0 v14.length :: .lsl 2 0 v15.length :: .v (.int .i64 v16) :: .junk :: .junk :: .junk :: .junk :: .junk :: .junk :: .junk :: .junk :: .junk :: .junk :: .junk :: .junk :: .junk :: .junk :: .junk :: .junk :: .junk :: .junk :: .junk :: .junk :: .junk :: .junk :: .junk :: .junk :: .junk :: .junk :: .junk :: .junk :: .junk :: .junk :: .junk :: .junk :: .junk :: .junk :: .junk :: .junk :: .junk :: .junk :: .junk :: .junk :: .junk :: .junk :: .junk :: .junk :: .junk :: .junk :: .junk :: .junk :: .junk :: .junk :: .junk :: [],[.var [.v (.int .i64 0),.v (.int .i64 0),.v (.int .i64 0),.v (.int .i64 0)],.rows 1 (v14.map e_i),.rows 1 (v15.map e_i)]⟩) (fun (v38,v39)=>(.exit 0,⟨.junk :: .junk :: .lptr 0 0 0 :: .lsl 1 0 v38.length :: .lsl 2 0 v39.length :: .junk :: .junk :: .junk :: .junk :: .junk :: .junk :: .junk :: .junk :: .junk :: .junk :: .junk :: .junk :: .junk :: .junk :: .junk :: .junk :: .junk :: .junk :: .junk :: .junk :: .junk :: .junk :: .junk :: .junk :: .junk :: .junk :: .junk :: .junk :: .junk :: .junk :: .junk :: .junk :: .junk :: .junk :: .junk :: .junk :: .junk :: .junk :: .junk :: .junk :: .junk :: .junk :: .junk :: .junk :: .junk :: .junk :: .junk :: .junk :: .junk :: .junk :: .junk :: .junk :: [],[.var [.v (.int .i64 0),.v (.int .i64 0),.v (.int .i64 0),.v (.int .i64 0)],.rows 1 (v38.map e_i),.rows 1 (v39.map e_i)]⟩)) ?_ ?_ ?_ ?_
    · rintro ⟨v14,v15,v16⟩ v0 hr
      dsimp only [array_part_ends_l1] at hr
      try dsimp only
      refine wA T (g:=?_)
      rcases ifs hr with ⟨h17,hr⟩|⟨h17,hr⟩
      · have T:=an h17 T
        refine wA T (g:=?_)
        obtain ⟨⟨v59,v60⟩,h32,hr⟩:=bs hr
        try dsimp only at hr
        refine TX.loopE (step:=array_part_ends_l2 v1 v2 v3 v4 v5 v6 v7 v8 v9 v16) (x:=(v14,v15,0)) h32 (fun (v40,v41,v42)=>⟨.junk :: .fptr true [.v (.int .i64 v1),.v (.int .i64 v2),.v (.int .i64 v3),.v (.int .i64 v4),.v (.int .i64 v5),.v (.int .i64 v6),.v (.int .i64 v7),.v (.int .i64 v8),.v (.int .i64 v9)] 0 :: .lptr 0 0 0 :: .lsl 1 0 v40.length :: .lsl 2 0 v41.length :: .v (.int .i64 v16) :: .junk :: .junk :: .junk :: .junk :: .junk :: .junk :: .junk :: .junk :: .junk :: .junk :: .junk :: .junk :: .junk :: .junk :: .junk :: .junk :: .junk :: .junk :: .junk :: .agg [.v (.int .i64 v8),.v (.int .i64 v9)] :: .v (.int .i64 v42) :: .junk :: .junk :: .junk :: .junk :: .junk :: .junk :: .junk :: .junk :: .junk :: .junk :: .junk :: .junk :: .junk :: .junk :: .junk :: .junk :: .junk :: .junk :: .junk :: .junk :: .junk :: .junk :: .junk :: .junk :: .junk :: .junk :: .junk :: .junk :: .junk :: .junk :: [],[.var [.v (.int .i64 0),.v (.int .i64 0),.v (.int .i64 0),.v (.int .i64 0)],.rows 1 (v40.map e_i),.rows 1 (v41.map e_i)]⟩) (fun (v50,v51)=>(.exit 2,⟨.junk :: .fptr true [.v (.int .i64 v1),.v (.int .i64 v2),.v (.int .i64 v3),.v (.int .i64 v4),.v (.int .i64 v5),.v (.int .i64 v6),.v (.int .i64 v7),.v (.int .i64 v8),.v (.int .i64 v9)] 0 :: .lptr 0 0 0 :: .lsl 1 0 v50.length :: .lsl 2 0 v51.length :: .v (.int .i64 v16) :: .junk :: .junk :: .junk :: .junk :: .junk :: .junk :: .junk :: .junk :: .junk :: .junk :: .junk :: .junk :: .junk :: .junk :: .junk :: .junk :: .junk :: .junk :: .junk :: .junk :: .junk :: .junk :: .junk :: .junk :: .junk :: .junk :: .junk :: .junk :: .junk :: .junk :: .junk :: .junk :: .junk :: .junk :: .junk :: .junk :: .junk :: .junk :: .junk :: .junk :: .junk :: .junk :: .junk :: .junk :: .junk :: .junk :: .junk :: .junk :: .junk :: .junk :: .junk :: [],[.var [.v (.int .i64 0),.v (.int .i64 0),.v (.int .i64 0),.v (.int .i64 0)],.rows 1 (v50.map e_i),.rows 1 (v51.map e_i)]⟩)) ?_ ?_ ?_ ?_
        · rintro ⟨v40,v41,v42⟩ v0 hr
          dsimp only [array_part_ends_l2] at hr
          try dsimp only
          refine wa_ T (g:=?_)
          rcases ifs hr with ⟨h25,hr⟩|⟨h25,hr⟩
          · have T:=an h25 T
            refine wa_ T (g:=?_)
            obtain ⟨v52,h26,hr⟩:=bs hr
            have h26l:=getI_lt h26
            refine wa_ T (g:=?_)
            have T:=an h26l T
            apply TO.pop1 (wn T) (ix_ok (f:=e_i) (xs:=([v8,v9] : List Int)) h26 rfl rfl rfl ar96 rfl ok3 (fun _=>rfl) cs3 (by first|exact .inl ⟨ag3,ok3,rfl⟩|exact .inr ⟨ag3,rfl,rfl⟩))
            repeat exact sd T
            refine wA T (g:=?_)
            obtain ⟨⟨v53,v54⟩,h27,hr⟩:=bs hr
            try dsimp only at hr
            apply TO.cal (wn T) rfl goFn165 (array_part_share_spec h27) rfl rfl rfl
            repeat exact sd T
            refine wa_ T (g:=?_)
            apply TO.pop1 (wn T) (pop_real rfl)
            repeat exact sd T
            refine wa_ T (g:=?_)
            obtain ⟨v55,h28,hr⟩:=bs hr
            apply TO.pop1 (wn T) (cvt_float_int un145 un3 rfl h28)
            repeat exact sd T
            refine wa_ T (g:=?_)
            apply TO.bm e_i ([v55] : List Int) (wn T) rfl (by simp only [zz,y40,e_i,Nat.reduceAdd,Nat.reduceMul,Nat.reduceLeDiff,Nat.reduceEqDiff,tslice,tparts,h17,h25,h26l];exact rfl) rfl
            repeat exact sd T
            refine wa_ T (g:=?_)
            obtain ⟨v56,h29,hr⟩:=bs hr
            apply TO.ap (f:=e_i) (xs:=v40) (ys:=([v55] : List Int)) (wn T) rfl rfl (by first|rfl|simp only [List.length_set]) rfl rfl so87 ni87 zc3 rfl (by rw [by3];exact h29) (fun _=>⟨rfl,rfl,rfl⟩)
            repeat exact sd T
            refine wa_ T (g:=?_)
            apply TO.pop1 (wn T) (pop_imag rfl)
            repeat exact sd T
            refine wa_ T (g:=?_)
            obtain ⟨v57,h30,hr⟩:=bs hr
            apply TO.pop1 (wn T) (cvt_float_int un145 un3 rfl h30)
            repeat exact sd T
            refine wa_ T (g:=?_)
            apply TO.bm e_i ([v57] : List Int) (wn T) rfl (by simp only [zz,y40,e_i,Nat.reduceAdd,Nat.reduceMul,Nat.reduceLeDiff,Nat.reduceEqDiff,tslice,tparts,h17,h25,h26l];exact rfl) rfl
            repeat exact sd T
            refine wa_ T (g:=?_)
            obtain ⟨v58,h31,hr⟩:=bs hr
            apply TO.ap (f:=e_i) (xs:=v41) (ys:=([v57] : List Int)) (wn T) rfl rfl (by first|rfl|simp only [List.length_set]) rfl rfl so87 ni87 zc3 rfl (by rw [by3];exact h31) (fun _=>⟨rfl,rfl,rfl⟩)
            repeat exact sd T
            refine wa_ T (g:=?_)
            cases hr
            refine ⟨rfl,?_⟩
            exact wk_ T [some 0,some 1,some 2] rfl (rv (.rows (.rows .nil rfl rfl) rfl rfl) rfl)
          · have T:=an h25 T
            refine wa_ T (g:=?_)
            cases hr
            refine ⟨rfl,?_⟩
            exact wk_ T [some 0,some 1,some 2] rfl (rv (.rows (.rows .nil rfl rfl) rfl rfl) rfl)
        · intro e h;cases h
        · try dsimp only
          refine wa_ T (g:=?_)
          cases hr
          refine ⟨rfl,?_⟩
          exact wk_ T [some 0,some 1,some 2] rfl (rv (.rows (.rows .nil rfl rfl) rfl rfl) rfl)
        · try dsimp only
          exact wk_ T [some 0,some 1,some 2] rfl (rv (.rows (.rows .nil rfl rfl) rfl rfl) rfl)
      · have T:=an h17 T
        refine wa_ T (g:=?_)
        cases hr
        refine ⟨rfl,?_⟩
        exact wk_ T [some 0,some 1,some 2] rfl (rv (.rows (.rows .nil rfl rfl) rfl rfl) rfl)
    · intro e h;cases h
    · try dsimp only
      refine wa_ T (g:=?_)
      obtain ⟨v63,h34,hr⟩:=bs hr
      apply TO.lok (wn T) rfl goFn105 (slices_Min_int_int_spec h34) (vw T) rfl rfl (by simp [clTB,cl,e_iiiii,e_i,e_iiiiiiiii,e_z])
      repeat exact sd T
      refine wa_ T (g:=?_)
      obtain ⟨v64,h35,hr⟩:=bs hr
      apply TO.lok (wn T) rfl goFn148 (slices_Max_int_int_spec h35) (vw T) rfl rfl (by simp [clTB,cl,e_iiiii,e_i,e_iiiiiiiii,e_z])
      repeat exact sd T
      refine wa_ T (g:=?_)
      obtain ⟨v65,h36,hr⟩:=bs hr
      apply TO.lok (wn T) rfl goFn105 (slices_Min_int_int_spec h36) (vw T) rfl rfl (by simp [clTB,cl,e_iiiii,e_i,e_iiiiiiiii,e_z])
      repeat exact sd T
      refine wa_ T (g:=?_)
      obtain ⟨v66,h37,hr⟩:=bs hr
      apply TO.lok (wn T) rfl goFn148 (slices_Max_int_int_spec h37) (vw T) rfl rfl (by simp [clTB,cl,e_iiiii,e_i,e_iiiiiiiii,e_z])
      repeat exact sd T
      refine wa_ T (g:=?_)
      cases hr
      refine ⟨.inr rfl,_,(ry T),?_⟩
      exact wr [] rfl .nil
    · try dsimp only
      exact wr [some 0,some 1,some 2] rfl (rv (.rows (.rows .nil rfl rfl) rfl rfl) rfl)
  rfl

end Go.Rex

namespace Go.Rex
open Go.Proofs
open Go Go.Rex Go.RowKit
set_option maxRecDepth 100000
set_option maxHeartbeats 200000
def y41:=an @ag3 <| an @ag45 <| an @cs45 <| an @fd45_0 <| an @fd45_1 <| an @ok45 <| an @st45 <| @zc45
theorem array_plus_spec {v1 : Int} {v2 : Int} {v3 : Int} {v4 : Int} {v5 : Int} {v6 : Int} (hr : array_plus v1 v2 v3 v4 = some (v5,v6)) : Spec (lim Tryz.prog) 137 [.agg [.v (.int .i64 v1),.v (.int .i64 v2)],.agg [.v (.int .i64 v3),.v (.int .i64 v4)]] ⟨[.agg [.v (.int .i64 v5),.v (.int .i64 v6)]],[]⟩:=by
  unfold array_plus at hr
  have T:=y41
  apply Spec.fn Tryz.func137 rfl
  focus (simp [Tryz.f137]<;>exact rfl)
  focus
    refine wB T (g:=?_)
    cases hr
    refine ⟨.inr rfl,_,(ry T),?_⟩
    exact wr [] rfl .nil
  rfl

end Go.Rex

namespace Go.Rex
open Go.Proofs
open Go Go.Rex Go.RowKit
set_option maxRecDepth 100000
set_option maxHeartbeats 1000000
def y42:=an @ag137 <| an @ag190 <| an @ag45 <| an @ag58 <| an @ar58 <| an @cs137 <| an @cs190 <| an @cs45 <| an @cs58 <| an @ok137 <| an @ok190 <| an @ok45 <| an @ok58 <| an @so187 <| an @so58 <| an @zc190 <| an @zc45 <| an @zc58 <| an @wi64_0a1 <| @wi64_1a1
theorem array_heard_ends_spec {v1 : Int} {v2 : Int} {v3 : (List (Int × Int × Int × Int × Int))} {v4 : Int} {v5 : Int} {v6 : Int} {v7 : Int} {v8 : Int} {v9 : Int} {v10 : Int} (hr : array_heard_ends v1 v2 v3 v4 v5 v6 = some (v7,v8,v9,v10)) : Spec (lim Tryz.prog) 86 [.agg [.v (.int .i64 v1),.v (.int .i64 v2),.list 5 (v3.map e_iiiii),.v (.int .i64 v4),.v (.int .i64 v5),.v (.int .i64 v6)]] ⟨[.agg [.v (.int .i64 v7),.v (.int .i64 v8),.v (.int .i64 v9),.v (.int .i64 v10)]],[]⟩:=by
  unfold array_heard_ends at hr
  have T:=an y42 <| an @e_iiiii.eq_1 <| @e_iiiiiiiii.eq_1
  apply Spec.fn Tryz.func86 rfl
  focus (simp [Tryz.f86]<;>exact rfl)
  focus
    refine wB T (g:=?_)
    obtain ⟨v11,h1,hr⟩:=bs hr
    apply TO.cal (wn T) rfl goFn134 (array_heard_parts_spec h1) rfl rfl rfl
    repeat exact sd T
    refine wc_ T (g:=?_)
    obtain ⟨⟨v55,v56,v57,v58⟩,h14,hr⟩:=bs hr
    try dsimp only at hr
    refine TX.loopE (step:=array_heard_ends_l1 v11) (x:=(0,0,0,0,0)) h14 (fun (v12,v13,v14,v15,v16)=>⟨.junk :: .junk :: .lptr 0 0 0 :: .lptr 1 0 0 :: .junk :: .junk :: .junk :: .junk :: .junk :: .lsl 2 0 v11.length :: .v (.int .i64 (v11.length : Int)) :: .v (.int .i64 v16) :: .junk :: .junk :: .junk :: .junk :: .junk :: .junk :: .junk :: .junk :: .junk :: .junk :: .junk :: .junk :: .junk :: .junk :: .junk :: .junk :: .junk :: .junk :: .junk :: [],[.var [.v (.int .i64 0),.v (.int .i64 0),.v (.int .i64 0),.v (.int .i64 0)],.var [.v (.int .i64 v12),.v (.int .i64 v13),.v (.int .i64 v14),.v (.int .i64 v15)],.rows 9 (v11.map e_iiiiiiiii)]⟩) (fun (v34,v35,v36,v37)=>(.exit 0,⟨.junk :: .junk :: .lptr 0 0 0 :: .lptr 1 0 0 :: .junk :: .junk :: .junk :: .junk :: .junk :: .junk :: .junk :: .junk :: .junk :: .junk :: .junk :: .junk :: .junk :: .junk :: .junk :: .junk :: .junk :: .junk :: .junk :: .junk :: .junk :: .junk :: .junk :: .junk :: .junk :: .junk :: .junk :: [],[.var [.v (.int .i64 0),.v (.int .i64 0),.v (.int .i64 0),.v (.int .i64 0)],.var [.v (.int .i64 v34),.v (.int .i64 v35),.v (.int .i64 v36),.v (.int .i64 v37)]]⟩)) ?_ ?_ ?_ ?_
    · rintro ⟨v12,v13,v14,v15,v16⟩ v0 hr
      dsimp only [array_heard_ends_l1] at hr
      try dsimp only
      refine wa_ T (g:=?_)
      rcases ifs hr with ⟨h8,hr⟩|⟨h8,hr⟩
      · have T:=an h8 T
        refine wa_ T (g:=?_)
        obtain ⟨⟨v38,v39,v40,v41,v42,v43,v44,v45,v46⟩,h9,hr⟩:=bs hr
        try dsimp only at hr
        have h9m:=tidx_map (f:=e_iiiiiiiii) h9
        have h9l:=getI_lt h9
        try simp only [List.length_set] at h9l
        have h9a:=getI_at h9
        have T:=an h9m T
        have T:=an h9l T
        have T:=an h9a T
        refine wA T (g:=?_)
        obtain ⟨⟨v47,v48,v49,v50⟩,h10,hr⟩:=bs hr
        try dsimp only at hr
        apply TO.cal (wn T) rfl goFn136 (array_part_ends_spec h10) rfl rfl rfl
        repeat exact sd T
        refine wa_ T (g:=?_)
        refine TX.unroll ?_
        repeat (first|(with_reducible first|refine mv ?_|refine TO.nil ?_)|((with_reducible first|apply TO.bin|apply TO.mv|apply TO.ixl|apply TO.al|apply TO.asg|apply TO.sv);(repeat (focus (show _ = _;first|exact k1 rfl|exact k2 rfl|(simp only [zz,y42,e_iiiii,e_iiiiiiiii,Nat.reduceAdd,Nat.reduceMul,Nat.reduceLeDiff,Nat.reduceEqDiff,tindex,partT,List.take,List.drop,List.getElem?_cons_zero,List.getElem?_cons_succ,z5,Int.reduceToNat,Int.reduceLE,Int.reduceLT,Int.cast_ofNat_Int,h8,h9m,h9l,h9a]<;>exact rfl)|exact rfl)));(with_reducible apply TO.here))|((with_reducible apply TX.region);(focus (simp only [zl]<;>exact rfl));(focus rfl);(try dsimp only))|with_reducible refine TD.nil ?_|((with_reducible first|apply TD.mv|apply TD.ia|apply TD.ld );(repeat (focus (show _ = _;first|exact k1 rfl|exact k2 rfl|(simp only [zz,y42,e_iiiii,e_iiiiiiiii,Nat.reduceAdd,Nat.reduceMul,Nat.reduceLeDiff,Nat.reduceEqDiff,tindexAddr,z5,Int.reduceToNat,Int.reduceLE,Int.reduceLT,Int.cast_ofNat_Int,tload,rowOf,partT,List.getElem?_map,h8,h9m,h9l,h9a]<;>exact rfl)|exact rfl)));(with_reducible refine TD.here ?_))|((with_reducible apply TX.drawn);(focus decide +kernel);(focus (simp only [zl]<;>exact rfl));(focus exact rfl);(try dsimp only))|((with_reducible apply TX.cond_true);(focus rfl);(focus (first|rfl|(simp only [z1,zn,h8,h9m,h9l,h9a];done))))|((with_reducible apply TX.cond_false);(focus rfl);(focus (first|rfl|(simp only [z1,zn,h8,h9m,h9l,h9a];done))))|fail)
        obtain ⟨⟨v51,v52⟩,h11,hr⟩:=bs hr
        try dsimp only at hr
        apply TD.cal (wn T) rfl goFn137 (array_plus_spec h11) rfl rfl rfl
        repeat exact sd T
        repeat (first|(with_reducible first|refine mv ?_|refine TO.nil ?_)|((with_reducible first|apply TO.bin|apply TO.mv);(repeat (focus (show _ = _;first|exact k1 rfl|exact k2 rfl|(simp only [zz,y42,e_iiiii,e_iiiiiiiii,Nat.reduceAdd,Nat.reduceMul,Nat.reduceLeDiff,Nat.reduceEqDiff,h8,h9m,h9l,h9a]<;>exact rfl)|exact rfl)));(with_reducible apply TO.here))|((with_reducible apply TX.region);(focus (simp only [zl]<;>exact rfl));(focus rfl);(try dsimp only))|with_reducible refine TD.nil ?_|((with_reducible first|apply TD.ia|apply TD.sv);(repeat (focus (show _ = _;first|exact k1 rfl|exact k2 rfl|(simp only [zz,y42,e_iiiii,e_iiiiiiiii,Nat.reduceAdd,Nat.reduceMul,Nat.reduceLeDiff,Nat.reduceEqDiff,tindexAddr,z5,Int.reduceToNat,Int.reduceLE,Int.reduceLT,Int.cast_ofNat_Int,h8,h9m,h9l,h9a]<;>exact rfl)|exact rfl)));(with_reducible refine TD.here ?_))|((with_reducible apply TX.drawn);(focus decide +kernel);(focus (simp only [zl]<;>exact rfl));(focus exact rfl);(try dsimp only))|fail)
        refine TX.unroll ?_
        repeat (first|(with_reducible first|refine mv ?_|refine TO.nil ?_)|((with_reducible first|apply TO.bin|apply TO.mv|apply TO.ixl|apply TO.al|apply TO.asg|apply TO.sv);(repeat (focus (show _ = _;first|exact k1 rfl|exact k2 rfl|(simp only [zz,y42,e_iiiii,e_iiiiiiiii,Nat.reduceAdd,Nat.reduceMul,Nat.reduceLeDiff,Nat.reduceEqDiff,tindex,partT,List.take,List.drop,List.getElem?_cons_zero,List.getElem?_cons_succ,z5,Int.reduceToNat,Int.reduceLE,Int.reduceLT,Int.cast_ofNat_Int,h8,h9m,h9l,h9a]<;>exact rfl)|exact rfl)));(with_reducible apply TO.here))|((with_reducible apply TX.region);(focus (simp only [zl]<;>exact rfl));(focus rfl);(try dsimp only))|with_reducible refine TD.nil ?_|((with_reducible first|apply TD.mv|apply TD.ia|apply TD.ld );(repeat (focus (show _ = _;first|exact k1 rfl|exact k2 rfl|(simp only [zz,y42,e_iiiii,e_iiiiiiiii,Nat.reduceAdd,Nat.reduceMul,Nat.reduceLeDiff,Nat.reduceEqDiff,tindexAddr,z5,Int.reduceToNat,Int.reduceLE,Int.reduceLT,Int.cast_ofNat_Int,tload,rowOf,partT,List.getElem?_map,h8,h9m,h9l,h9a]<;>exact rfl)|exact rfl)));(with_reducible refine TD.here ?_))|((with_reducible apply TX.drawn);(focus decide +kernel);(focus (simp only [zl]<;>exact rfl));(focus exact rfl);(try dsimp only))|((with_reducible apply TX.cond_true);(focus rfl);(focus (first|rfl|(simp only [z1,zn,h8,h9m,h9l,h9a];done))))|((with_reducible apply TX.cond_false);(focus rfl);(focus (first|rfl|(simp only [z1,zn,h8,h9m,h9l,h9a];done))))|fail)
        obtain ⟨⟨v53,v54⟩,h12,hr⟩:=bs hr
        try dsimp only at hr
        apply TD.cal (wn T) rfl goFn137 (array_plus_spec h12) rfl rfl rfl
        repeat exact sd T
        repeat (first|(with_reducible first|refine mv ?_|refine TO.nil ?_)|((with_reducible first|apply TO.bin|apply TO.mv);(repeat (focus (show _ = _;first|exact k1 rfl|exact k2 rfl|(simp only [zz,y42,e_iiiii,e_iiiiiiiii,Nat.reduceAdd,Nat.reduceMul,Nat.reduceLeDiff,Nat.reduceEqDiff,h8,h9m,h9l,h9a]<;>exact rfl)|exact rfl)));(with_reducible apply TO.here))|((with_reducible apply TX.region);(focus (simp only [zl]<;>exact rfl));(focus rfl);(try dsimp only))|with_reducible refine TD.nil ?_|((with_reducible first|apply TD.ia|apply TD.sv);(repeat (focus (show _ = _;first|exact k1 rfl|exact k2 rfl|(simp only [zz,y42,e_iiiii,e_iiiiiiiii,Nat.reduceAdd,Nat.reduceMul,Nat.reduceLeDiff,Nat.reduceEqDiff,tindexAddr,z5,Int.reduceToNat,Int.reduceLE,Int.reduceLT,Int.cast_ofNat_Int,h8,h9m,h9l,h9a]<;>exact rfl)|exact rfl)));(with_reducible refine TD.here ?_))|((with_reducible apply TX.drawn);(focus decide +kernel);(focus (simp only [zl]<;>exact rfl));(focus exact rfl);(try dsimp only))|fail)
        obtain ⟨_,h13,hr⟩:=bs hr
        refine TX.loopE (step:=array_heard_ends_l2) (x:=()) h13 (fun _=>⟨.junk :: .junk :: .lptr 0 0 0 :: .lptr 1 0 0 :: .junk :: .junk :: .junk :: .junk :: .junk :: .lsl 2 0 v11.length :: .v (.int .i64 (v11.length : Int)) :: .v (.int .i64 v16) :: .junk :: .junk :: .junk :: .junk :: .agg [.v (.int .i64 v47),.v (.int .i64 v48),.v (.int .i64 v49),.v (.int .i64 v50)] :: .v (.int .i64 2) :: .junk :: .junk :: .junk :: .junk :: .junk :: .junk :: .junk :: .junk :: .junk :: .junk :: .junk :: .junk :: .junk :: [],[.var [.v (.int .i64 0),.v (.int .i64 0),.v (.int .i64 0),.v (.int .i64 0)],.var [.v (.int .i64 v51),.v (.int .i64 v52),.v (.int .i64 v53),.v (.int .i64 v54)],.rows 9 (v11.map e_iiiiiiiii)]⟩) (fun _=>(.exit 2,⟨.junk :: .junk :: .lptr 0 0 0 :: .lptr 1 0 0 :: .junk :: .junk :: .junk :: .junk :: .junk :: .lsl 2 0 v11.length :: .v (.int .i64 (v11.length : Int)) :: .v (.int .i64 v16) :: .junk :: .junk :: .junk :: .junk :: .junk :: .junk :: .junk :: .junk :: .junk :: .junk :: .junk :: .junk :: .junk :: .junk :: .junk :: .junk :: .junk :: .junk :: .junk :: [],[.var [.v (.int .i64 0),.v (.int .i64 0),.v (.int .i64 0),.v (.int .i64 0)],.var [.v (.int .i64 v51),.v (.int .i64 v52),.v (.int .i64 v53),.v (.int .i64 v54)],.rows 9 (v11.map e_iiiiiiiii)]⟩)) ?_ ?_ ?_ ?_
        · rintro _ v0 hr
          dsimp only [array_heard_ends_l2] at hr
          try dsimp only
          refine wa_ T (g:=?_)
          cases hr
          refine ⟨rfl,?_⟩
          exact wk_ T [some 0,some 1,some 2] rfl (rv (rv (.rows .nil rfl rfl) rfl) rfl)
        · intro e h;cases h
        · try dsimp only
          refine wa_ T (g:=?_)
          cases hr
          refine ⟨rfl,?_⟩
          exact wk_ T [some 0,some 1,some 2] rfl (rv (rv (.rows .nil rfl rfl) rfl) rfl)
        · try dsimp only
          exact wk_ T [some 0,some 1,some 2] rfl (rv (rv (.rows .nil rfl rfl) rfl) rfl)
      · have T:=an h8 T
        refine wa_ T (g:=?_)
        cases hr
        refine ⟨rfl,?_⟩
        exact wk_ T [some 0,some 1] rfl (rv (rv .nil rfl) rfl)
    · intro e h;cases h
    · try dsimp only
      refine wA T (g:=?_)
      cases hr
      refine ⟨.inr rfl,_,(ry T),?_⟩
      exact wr [] rfl .nil
    · try dsimp only
      exact wr [some 0,some 1,some 2] rfl (rv (rv (.rows .nil rfl rfl) rfl) rfl)
  rfl

end Go.Rex

namespace Go.Rex
open Go.Proofs
open Go Go.Rex Go.RowKit
set_option maxRecDepth 100000
set_option maxHeartbeats 200000
def y43:=an @ag118 <| an @ag137 <| an @ag24 <| an @ag38 <| an @ag58 <| an @cs118 <| an @cs121 <| an @cs137 <| an @cs24 <| an @cs38 <| an @cs58 <| an @fd137_0 <| an @ok118 <| an @ok137 <| an @ok24 <| an @ok38 <| an @ok58 <| an @so182 <| an @st118 <| an @st137 <| an @zc118 <| an @zc121 <| an @zc137 <| @zc58
theorem array_told_2_api_Range_89a9_spec {v1 : Int} {v2 : Int} {v3 : (List (Int × Int × Int × Int × Int))} {v4 : Int} {v5 : Int} {v6 : Int} {v7 : Int} {v8 : Int} {v9 : Int} {v10 : Int} {v11 : Int} (hr : array_told_2_api_Range_89a9 v1 v2 v3 v4 v5 v6 = some (v7,v8,v9,v10,v11)) : Spec (lim Tryz.prog) 85 [.agg [.v (.int .i64 v1),.v (.int .i64 v2),.list 5 (v3.map e_iiiii)],.agg [.v (.int .i64 v4),.v (.int .i64 v5),.v (.int .i64 v6)],.func 86 [] []] ⟨[.tuple [.agg [.v (.int .i64 v7),.v (.int .i64 v8),.v (.int .i64 v9),.v (.int .i64 v10)],.v (.int .i64 v11)]],[]⟩:=by
  unfold array_told_2_api_Range_89a9 at hr
  have T:=an y43 <| @e_iiiii.eq_1
  apply Spec.fn Tryz.func85 rfl
  focus (simp [Tryz.f85]<;>exact rfl)
  focus
    refine wF T (g:=?_)
    obtain ⟨v12,h1,hr⟩:=bs hr
    apply TO.cal (wn T) rfl goFn63 (array_firstError_05b8_spec h1) rfl rfl rfl
    repeat exact sd T
    refine wa_ T (g:=?_)
    rcases ifs hr with ⟨h2,hr⟩|⟨h2,hr⟩
    · have T:=an h2 T
      refine wA T (g:=?_)
      cases hr
      refine ⟨.inr rfl,_,(ry T),?_⟩
      exact wk_ T [] rfl .nil
    · have T:=an h2 T
      refine wA T (g:=?_)
      obtain ⟨⟨v13,v14,v15,v16⟩,h3,hr⟩:=bs hr
      try dsimp only at hr
      apply TO.cal (wn T) rfl goFn86 (array_heard_ends_spec h3) rfl rfl rfl
      repeat exact sd T
      refine wa_ T (g:=?_)
      cases hr
      refine ⟨.inr rfl,_,(ry T),?_⟩
      exact wk_ T [] rfl .nil
  rfl

end Go.Rex

namespace Go.Rex
open Go.Proofs
open Go Go.Rex Go.RowKit
set_option maxRecDepth 100000
set_option maxHeartbeats 200000
def y44:=an @ag24 <| an @ag38 <| an @ag58 <| an @cs24 <| an @cs38 <| an @cs58 <| an @ok24 <| an @ok38 <| an @ok58 <| @zc58
theorem array_EndsAt_spec {v1 : Int} {v2 : Int} {v3 : (List (Int × Int × Int × Int × Int))} {v4 : Int} {v5 : Int} {v6 : Int} {v7 : Int} {v8 : Int} {v9 : Int} {v10 : Int} {v11 : Int} (hr : array_EndsAt v1 v2 v3 v4 v5 v6 = some (v7,v8,v9,v10,v11)) : Spec (lim Tryz.prog) 29 [.agg [.v (.int .i64 v1),.v (.int .i64 v2),.list 5 (v3.map e_iiiii)],.agg [.v (.int .i64 v4),.v (.int .i64 v5),.v (.int .i64 v6)]] ⟨[.tuple [.agg [.v (.int .i64 v7),.v (.int .i64 v8),.v (.int .i64 v9),.v (.int .i64 v10)],.v (.int .i64 v11)]],[]⟩:=by
  unfold array_EndsAt at hr
  have T:=an y44 <| @e_iiiii.eq_1
  apply Spec.fn Tryz.func29 rfl
  focus (simp [Tryz.f29]<;>exact rfl)
  focus
    refine wB T (g:=?_)
    obtain ⟨⟨v12,v13,v14,v15,v16⟩,h1,hr⟩:=bs hr
    try dsimp only at hr
    apply TO.cal (wn T) rfl goFn85 (array_told_2_api_Range_89a9_spec h1) rfl rfl rfl
    repeat exact sd T
    refine wa_ T (g:=?_)
    cases hr
    refine ⟨.inr rfl,_,(ry T),?_⟩
    exact wr [] rfl .nil
  rfl

end Go.Rex

namespace Go.Rex
open Go.Proofs
open Go Go.Rex Go.RowKit
set_option maxRecDepth 100000
set_option maxHeartbeats 200000
def y45:=an @ag3 <| an @ag45 <| an @cs45 <| an @fd45_0 <| an @fd45_1 <| an @ok45 <| an @st45 <| @zc45
theorem array_sizes_spec {v1 : Int} {v2 : Int} {v3 : Int} {v4 : Int} (hr : array_sizes v1 v2 = some (v3,v4)) : Spec (lim Tryz.prog) 139 [.agg [.v (.int .i64 v1),.v (.int .i64 v2)]] ⟨[.agg [.v (.int .i64 v3),.v (.int .i64 v4)]],[]⟩:=by
  unfold array_sizes at hr
  have T:=y45
  apply Spec.fn Tryz.func139 rfl
  focus (simp [Tryz.f139]<;>exact rfl)
  focus
    refine wB T (g:=?_)
    apply TO.pop1 (wn T) (pop_neg rfl)
    repeat exact sd T
    refine wa_ T (g:=?_)
    apply TO.pop1 (wn T) (pop_max3 rfl rfl rfl)
    repeat exact sd T
    refine wA T (g:=?_)
    apply TO.pop1 (wn T) (pop_neg rfl)
    repeat exact sd T
    refine wa_ T (g:=?_)
    apply TO.pop1 (wn T) (pop_max rfl rfl)
    repeat exact sd T
    refine wa_ T (g:=?_)
    cases hr
    refine ⟨.inr rfl,_,(ry T),?_⟩
    exact wr [] rfl .nil
  rfl

end Go.Rex

namespace Go.Rex
open Go.Proofs
open Go Go.Rex Go.RowKit
set_option maxRecDepth 100000
set_option maxHeartbeats 200000
def y46:=an @ag3 <| an @ag45 <| an @cs45 <| an @fd45_0 <| an @fd45_1 <| an @ok45 <| an @st45 <| @zc45
theorem array_squared_spec {v1 : Int} {v2 : Int} {v3 : Int} {v4 : Int} (hr : array_squared v1 v2 = some (v3,v4)) : Spec (lim Tryz.prog) 138 [.agg [.v (.int .i64 v1),.v (.int .i64 v2)]] ⟨[.agg [.v (.int .i64 v3),.v (.int .i64 v4)]],[]⟩:=by
  unfold array_squared at hr
  have T:=y46
  apply Spec.fn Tryz.func138 rfl
  focus (simp [Tryz.f138]<;>exact rfl)
  focus
    refine wB T (g:=?_)
    cases hr
    refine ⟨.inr rfl,_,(ry T),?_⟩
    exact wr [] rfl .nil
  rfl

end Go.Rex

namespace Go.Rex
open Go.Proofs
open Go Go.Rex Go.RowKit
set_option maxRecDepth 100000
set_option maxHeartbeats 200000
def y47:=an @ag137 <| an @ag3 <| an @ag45 <| an @ar58 <| an @cs137 <| an @cs45 <| an @cs58 <| an @fd45_0 <| an @fd45_1 <| an @ok137 <| an @ok45 <| an @ok58 <| an @so58 <| an @st45 <| an @zc45 <| @zc58
theorem array_heard_size_spec {v1 : Int} {v2 : Int} {v3 : (List (Int × Int × Int × Int × Int))} {v4 : Int} {v5 : Int} {v6 : Int} {v7 : Int} {v8 : Int} (hr : array_heard_size v1 v2 v3 v4 v5 v6 = some (v7,v8)) : Spec (lim Tryz.prog) 88 [.agg [.v (.int .i64 v1),.v (.int .i64 v2),.list 5 (v3.map e_iiiii),.v (.int .i64 v4),.v (.int .i64 v5),.v (.int .i64 v6)]] ⟨[.agg [.v (.int .i64 v7),.v (.int .i64 v8)]],[]⟩:=by
  unfold array_heard_size at hr
  have T:=an y47 <| @e_iiiii.eq_1
  apply Spec.fn Tryz.func88 rfl
  focus (simp [Tryz.f88]<;>exact rfl)
  focus
    refine wB T (g:=?_)
    obtain ⟨⟨v9,v10,v11,v12⟩,h1,hr⟩:=bs hr
    try dsimp only at hr
    apply TO.cal (wn T) rfl goFn86 (array_heard_ends_spec h1) rfl rfl rfl
    repeat exact sd T
    repeat (first|(with_reducible first|refine mv ?_|refine TO.nil ?_)|((with_reducible first|apply TO.al|apply TO.sv);(repeat (focus (show _ = _;first|exact k1 rfl|exact k2 rfl|(simp only [zz,y47,e_iiiii,Nat.reduceAdd,Nat.reduceMul,Nat.reduceLeDiff,Nat.reduceEqDiff]<;>exact rfl)|exact rfl)));(with_reducible apply TO.here))|((with_reducible apply TX.region);(focus (simp only [zl]<;>exact rfl));(focus rfl);(try dsimp only))|with_reducible refine TD.nil ?_|((with_reducible first|apply TD.ia|apply TD.ld );(repeat (focus (show _ = _;first|exact k1 rfl|exact k2 rfl|(simp only [zz,y47,e_iiiii,Nat.reduceAdd,Nat.reduceMul,Nat.reduceLeDiff,Nat.reduceEqDiff,tindexAddr,z5,Int.reduceToNat,Int.reduceLE,Int.reduceLT,Int.cast_ofNat_Int,tload,rowOf,partT,List.getElem?_map]<;>exact rfl)|exact rfl)));(with_reducible refine TD.here ?_))|((with_reducible apply TX.drawn);(focus decide +kernel);(focus (simp only [zl]<;>exact rfl));(focus exact rfl);(try dsimp only))|fail)
    obtain ⟨⟨v13,v14⟩,h2,hr⟩:=bs hr
    try dsimp only at hr
    apply TD.cal (wn T) rfl goFn139 (array_sizes_spec h2) rfl rfl rfl
    repeat exact sd T
    refine wa_ T (g:=?_)
    obtain ⟨⟨v15,v16⟩,h3,hr⟩:=bs hr
    try dsimp only at hr
    apply TD.cal (wn T) rfl goFn138 (array_squared_spec h3) rfl rfl rfl
    repeat exact sd T
    repeat (first|(with_reducible first|refine mv ?_|refine TD.nil ?_)|((with_reducible first|apply TD.ia|apply TD.ld );(repeat (focus (show _ = _;first|exact k1 rfl|exact k2 rfl|(simp only [zz,y47,e_iiiii,Nat.reduceAdd,Nat.reduceMul,Nat.reduceLeDiff,Nat.reduceEqDiff,tindexAddr,z5,Int.reduceToNat,Int.reduceLE,Int.reduceLT,Int.cast_ofNat_Int,tload,rowOf,partT,List.getElem?_map]<;>exact rfl)|exact rfl)));(with_reducible refine TD.here ?_))|((with_reducible apply TX.drawn);(focus decide +kernel);(focus (simp only [zl]<;>exact rfl));(focus exact rfl);(try dsimp only))|fail)
    obtain ⟨⟨v17,v18⟩,h4,hr⟩:=bs hr
    try dsimp only at hr
    apply TD.cal (wn T) rfl goFn139 (array_sizes_spec h4) rfl rfl rfl
    repeat exact sd T
    refine wa_ T (g:=?_)
    obtain ⟨⟨v19,v20⟩,h5,hr⟩:=bs hr
    try dsimp only at hr
    apply TD.cal (wn T) rfl goFn138 (array_squared_spec h5) rfl rfl rfl
    repeat exact sd T
    refine wa_ T (g:=?_)
    obtain ⟨⟨v21,v22⟩,h6,hr⟩:=bs hr
    try dsimp only at hr
    apply TD.cal (wn T) rfl goFn137 (array_plus_spec h6) rfl rfl rfl
    repeat exact sd T
    refine wA T (g:=?_)
    obtain ⟨⟨v23,v24⟩,h7,hr⟩:=bs hr
    try dsimp only at hr
    apply TD.cal (wn T) rfl goFn140 (array_root_spec h7) rfl rfl rfl
    repeat exact sd T
    refine wA T (g:=?_)
    obtain ⟨⟨v25,v26⟩,h8,hr⟩:=bs hr
    try dsimp only at hr
    apply TD.cal (wn T) rfl goFn140 (array_root_spec h8) rfl rfl rfl
    repeat exact sd T
    refine wa_ T (g:=?_)
    cases hr
    refine ⟨.inr rfl,_,(ry T),?_⟩
    exact wr [] rfl .nil
  rfl

end Go.Rex

namespace Go.Rex
open Go.Proofs
open Go Go.Rex Go.RowKit
set_option maxRecDepth 100000
set_option maxHeartbeats 200000
def y48:=an @ag118 <| an @ag137 <| an @ag24 <| an @ag38 <| an @ag45 <| an @cs118 <| an @cs121 <| an @cs137 <| an @cs24 <| an @cs38 <| an @cs45 <| an @fd137_0 <| an @ok118 <| an @ok137 <| an @ok24 <| an @ok38 <| an @ok45 <| an @so182 <| an @st118 <| an @st137 <| an @zc118 <| an @zc121 <| an @zc137 <| @zc45
theorem array_told_api_Range_9658_spec {v1 : Int} {v2 : Int} {v3 : (List (Int × Int × Int × Int × Int))} {v4 : Int} {v5 : Int} {v6 : Int} {v7 : Int} {v8 : Int} {v9 : Int} (hr : array_told_api_Range_9658 v1 v2 v3 v4 v5 v6 = some (v7,v8,v9)) : Spec (lim Tryz.prog) 87 [.agg [.v (.int .i64 v1),.v (.int .i64 v2),.list 5 (v3.map e_iiiii)],.agg [.v (.int .i64 v4),.v (.int .i64 v5),.v (.int .i64 v6)],.func 88 [] []] ⟨[.tuple [.agg [.v (.int .i64 v7),.v (.int .i64 v8)],.v (.int .i64 v9)]],[]⟩:=by
  unfold array_told_api_Range_9658 at hr
  have T:=an y48 <| @e_iiiii.eq_1
  apply Spec.fn Tryz.func87 rfl
  focus (simp [Tryz.f87]<;>exact rfl)
  focus
    refine wF T (g:=?_)
    obtain ⟨v10,h1,hr⟩:=bs hr
    apply TO.cal (wn T) rfl goFn63 (array_firstError_05b8_spec h1) rfl rfl rfl
    repeat exact sd T
    refine wa_ T (g:=?_)
    rcases ifs hr with ⟨h2,hr⟩|⟨h2,hr⟩
    · have T:=an h2 T
      refine wA T (g:=?_)
      cases hr
      refine ⟨.inr rfl,_,(ry T),?_⟩
      exact wk_ T [] rfl .nil
    · have T:=an h2 T
      refine wA T (g:=?_)
      obtain ⟨⟨v11,v12⟩,h3,hr⟩:=bs hr
      try dsimp only at hr
      apply TO.cal (wn T) rfl goFn88 (array_heard_size_spec h3) rfl rfl rfl
      repeat exact sd T
      refine wa_ T (g:=?_)
      cases hr
      refine ⟨.inr rfl,_,(ry T),?_⟩
      exact wk_ T [] rfl .nil
  rfl

end Go.Rex

namespace Go.Rex
open Go.Proofs
open Go Go.Rex Go.RowKit
set_option maxRecDepth 100000
set_option maxHeartbeats 200000
def y49:=an @ag24 <| an @ag38 <| an @ag45 <| an @cs24 <| an @cs38 <| an @cs45 <| an @ok24 <| an @ok38 <| an @ok45 <| @zc45
theorem array_SizeAt_spec {v1 : Int} {v2 : Int} {v3 : (List (Int × Int × Int × Int × Int))} {v4 : Int} {v5 : Int} {v6 : Int} {v7 : Int} {v8 : Int} {v9 : Int} (hr : array_SizeAt v1 v2 v3 v4 v5 v6 = some (v7,v8,v9)) : Spec (lim Tryz.prog) 30 [.agg [.v (.int .i64 v1),.v (.int .i64 v2),.list 5 (v3.map e_iiiii)],.agg [.v (.int .i64 v4),.v (.int .i64 v5),.v (.int .i64 v6)]] ⟨[.tuple [.agg [.v (.int .i64 v7),.v (.int .i64 v8)],.v (.int .i64 v9)]],[]⟩:=by
  unfold array_SizeAt at hr
  have T:=an y49 <| @e_iiiii.eq_1
  apply Spec.fn Tryz.func30 rfl
  focus (simp [Tryz.f30]<;>exact rfl)
  focus
    refine wB T (g:=?_)
    obtain ⟨⟨v10,v11,v12⟩,h1,hr⟩:=bs hr
    try dsimp only at hr
    apply TO.cal (wn T) rfl goFn87 (array_told_api_Range_9658_spec h1) rfl rfl rfl
    repeat exact sd T
    refine wa_ T (g:=?_)
    cases hr
    refine ⟨.inr rfl,_,(ry T),?_⟩
    exact wr [] rfl .nil
  rfl

end Go.Rex

namespace Go.Rex
open Go.Proofs
open Go Go.Rex Go.RowKit
set_option maxRecDepth 100000
set_option maxHeartbeats 1000000
def y50:=an @un145 <| @un3
theorem base_IsWhole_spec {v1 : Nat} {v2 : Bool} (hr : base_IsWhole v1 = some (v2)) : Spec (lim Tryz.prog) 96 [.v (.float .f64 v1)] ⟨[.v (.bool v2)],[]⟩:=by
  unfold base_IsWhole at hr
  have T:=y50
  apply Spec.fn Tryz.func96 rfl
  focus (simp [Tryz.f96]<;>exact rfl)
  focus
    refine wa_ T (g:=?_)
    apply TO.pop1 (wn T) (pop_fcmp rfl rfl (by decide))
    repeat exact sd T
    refine wa_ T (g:=?_)
    rcases ifs hr with ⟨h1,hr⟩|⟨h1,hr⟩
    · have T:=an h1 T
      refine wa_ T (g:=?_)
      cases hr
      refine ⟨.inr rfl,_,(ry T),?_⟩
      exact wk_ T [] rfl .nil
    · have T:=an h1 T
      refine wa_ T (g:=?_)
      obtain ⟨v3,h2,hr⟩:=bs hr
      apply TO.pop1 (wn T) (pop_farith rfl rfl (by decide) (h2))
      repeat exact sd T
      refine wa_ T (g:=?_)
      apply TO.pop1 (wn T) (pop_fcmp rfl rfl (by decide))
      repeat exact sd T
      refine wa_ T (g:=?_)
      rcases ifs hr with ⟨h3,hr⟩|⟨h3,hr⟩
      · have T:=an h3 T
        refine wa_ T (g:=?_)
        cases hr
        refine ⟨.inr rfl,_,(ry T),?_⟩
        exact wk_ T [] rfl .nil
      · have T:=an h3 T
        refine wa_ T (g:=?_)
        apply TO.pop1 (wn T) (pop_fcmp rfl rfl (by decide))
        repeat exact sd T
        refine wa_ T (g:=?_)
        rcases ifs hr with ⟨h4,hr⟩|⟨h4,hr⟩
        · have T:=an h4 T
          refine wa_ T (g:=?_)
          apply TO.pop1 (wn T) (pop_fcmp rfl rfl (by decide))
          repeat exact sd T
          refine wa_ T (g:=?_)
          apply TO.pop1 (wn T) (pop_not rfl)
          repeat exact sd T
          refine wa_ T (g:=?_)
          rcases ifs hr with ⟨h5,hr⟩|⟨h5,hr⟩
          · have T:=an h5 T
            refine wa_ T (g:=?_)
            obtain ⟨v4,h6,hr⟩:=bs hr
            apply TO.pop1 (wn T) (cvt_float_int un145 un3 rfl h6)
            repeat exact sd T
            refine wa_ T (g:=?_)
            apply TO.pop1 (wn T) (cvt_int_float un3 un145 rfl)
            repeat exact sd T
            refine wa_ T (g:=?_)
            apply TO.pop1 (wn T) (pop_fcmp rfl rfl (by decide))
            repeat exact sd T
            refine wa_ T (g:=?_)
            cases hr
            refine ⟨.inr rfl,_,(ry T),?_⟩
            exact wk_ T [] rfl .nil
          · have T:=an h5 T
            refine wa_ T (g:=?_)
            cases hr
            refine ⟨.inr rfl,_,(ry T),?_⟩
            exact wk_ T [] rfl .nil
        · have T:=an h4 T
          refine wa_ T (g:=?_)
          apply TO.pop1 (wn T) (pop_not rfl)
          repeat exact sd T
          refine wa_ T (g:=?_)
          cases hr
          refine ⟨.inr rfl,_,(ry T),?_⟩
          exact wk_ T [] rfl .nil
  rfl

end Go.Rex

namespace Go.Rex
open Go.Proofs
open Go Go.Rex Go.RowKit
set_option maxRecDepth 100000
set_option maxHeartbeats 200000
def y51:=an @un145 <| @un3
theorem base_Parts_spec {v1 : Nat} {v2 : Nat} {v3 : Int} {v4 : Int} (hr : base_Parts v1 v2 = some (v3,v4)) : Spec (lim Tryz.prog) 97 [.v (.complex .f64 v1 v2)] ⟨[.tuple [.v (.int .i64 v3),.v (.int .i64 v4)]],[]⟩:=by
  unfold base_Parts at hr
  have T:=y51
  apply Spec.fn Tryz.func97 rfl
  focus (simp [Tryz.f97]<;>exact rfl)
  focus
    refine wa_ T (g:=?_)
    apply TO.pop1 (wn T) (pop_real rfl)
    repeat exact sd T
    refine wa_ T (g:=?_)
    obtain ⟨v5,h1,hr⟩:=bs hr
    apply TO.pop1 (wn T) (cvt_float_int un145 un3 rfl h1)
    repeat exact sd T
    refine wa_ T (g:=?_)
    apply TO.pop1 (wn T) (pop_imag rfl)
    repeat exact sd T
    refine wa_ T (g:=?_)
    obtain ⟨v6,h2,hr⟩:=bs hr
    apply TO.pop1 (wn T) (cvt_float_int un145 un3 rfl h2)
    repeat exact sd T
    refine wa_ T (g:=?_)
    cases hr
    refine ⟨.inr rfl,_,(ry T),?_⟩
    exact wr [] rfl .nil
  rfl

end Go.Rex

namespace Go.Rex
open Go.Proofs
open Go Go.Rex Go.RowKit
set_option maxRecDepth 100000
set_option maxHeartbeats 1000000
theorem law07_parts_spec {v1 : Nat} {v2 : Nat} {v3 : Int} {v4 : Int} {v5 : Bool} (hr : law07_parts v1 v2 = some (v3,v4,v5)) : Spec (lim Tryz.prog) 39 [.v (.complex .f64 v1 v2)] ⟨[.tuple [.v (.int .i64 v3),.v (.int .i64 v4),.v (.bool v5)]],[]⟩:=by
  unfold law07_parts at hr
  have T:=trivial
  apply Spec.fn Tryz.func39 rfl
  focus (simp [Tryz.f39]<;>exact rfl)
  focus
    refine wa_ T (g:=?_)
    apply TO.pop1 (wn T) (pop_real rfl)
    repeat exact sd T
    refine wa_ T (g:=?_)
    obtain ⟨v6,h1,hr⟩:=bs hr
    apply TO.cal (wn T) rfl goFn96 (base_IsWhole_spec h1) rfl rfl rfl
    repeat exact sd T
    refine wa_ T (g:=?_)
    apply TO.pop1 (wn T) (pop_not rfl)
    repeat exact sd T
    refine wa_ T (g:=?_)
    rcases ifs hr with ⟨h2,hr⟩|⟨h2,hr⟩
    · have T:=an h2 T
      refine wa_ T (g:=?_)
      apply TO.pop1 (wn T) (pop_imag rfl)
      repeat exact sd T
      refine wa_ T (g:=?_)
      obtain ⟨v7,h3,hr⟩:=bs hr
      apply TO.cal (wn T) rfl goFn96 (base_IsWhole_spec h3) rfl rfl rfl
      repeat exact sd T
      refine wa_ T (g:=?_)
      apply TO.pop1 (wn T) (pop_not rfl)
      repeat exact sd T
      refine wa_ T (g:=?_)
      rcases ifs hr with ⟨h4,hr⟩|⟨h4,hr⟩
      · have T:=an h4 T
        refine wa_ T (g:=?_)
        apply TO.pop1 (wn T) (pop_real rfl)
        repeat exact sd T
        refine wa_ T (g:=?_)
        apply TO.pop1 (wn T) (pop_fcmp rfl rfl (by decide))
        repeat exact sd T
        refine wa_ T (g:=?_)
        rcases ifs hr with ⟨h5,hr⟩|⟨h5,hr⟩
        · have T:=an h5 T
          refine wa_ T (g:=?_)
          cases hr
          refine ⟨.inr rfl,_,(ry T),?_⟩
          exact wk_ T [] rfl .nil
        · have T:=an h5 T
          refine wa_ T (g:=?_)
          apply TO.pop1 (wn T) (pop_real rfl)
          repeat exact sd T
          refine wa_ T (g:=?_)
          apply TO.pop1 (wn T) (pop_fcmp rfl rfl (by decide))
          repeat exact sd T
          refine wa_ T (g:=?_)
          rcases ifs hr with ⟨h6,hr⟩|⟨h6,hr⟩
          · have T:=an h6 T
            refine wa_ T (g:=?_)
            cases hr
            refine ⟨.inr rfl,_,(ry T),?_⟩
            exact wk_ T [] rfl .nil
          · have T:=an h6 T
            refine wa_ T (g:=?_)
            apply TO.pop1 (wn T) (pop_imag rfl)
            repeat exact sd T
            refine wa_ T (g:=?_)
            apply TO.pop1 (wn T) (pop_fcmp rfl rfl (by decide))
            repeat exact sd T
            refine wa_ T (g:=?_)
            rcases ifs hr with ⟨h7,hr⟩|⟨h7,hr⟩
            · have T:=an h7 T
              refine wa_ T (g:=?_)
              cases hr
              refine ⟨.inr rfl,_,(ry T),?_⟩
              exact wk_ T [] rfl .nil
            · have T:=an h7 T
              refine wa_ T (g:=?_)
              apply TO.pop1 (wn T) (pop_imag rfl)
              repeat exact sd T
              refine wa_ T (g:=?_)
              apply TO.pop1 (wn T) (pop_fcmp rfl rfl (by decide))
              repeat exact sd T
              refine wa_ T (g:=?_)
              rcases ifs hr with ⟨h8,hr⟩|⟨h8,hr⟩
              · have T:=an h8 T
                refine wa_ T (g:=?_)
                cases hr
                refine ⟨.inr rfl,_,(ry T),?_⟩
                exact wk_ T [] rfl .nil
              · have T:=an h8 T
                refine wa_ T (g:=?_)
                obtain ⟨⟨v8,v9⟩,h9,hr⟩:=bs hr
                try dsimp only at hr
                apply TO.cal (wn T) rfl goFn97 (base_Parts_spec h9) rfl rfl rfl
                repeat exact sd T
                refine wa_ T (g:=?_)
                cases hr
                refine ⟨.inr rfl,_,(ry T),?_⟩
                exact wk_ T [] rfl .nil
      · have T:=an h4 T
        refine wa_ T (g:=?_)
        cases hr
        refine ⟨.inr rfl,_,(ry T),?_⟩
        exact wk_ T [] rfl .nil
    · have T:=an h2 T
      refine wa_ T (g:=?_)
      cases hr
      refine ⟨.inr rfl,_,(ry T),?_⟩
      exact wk_ T [] rfl .nil
  rfl

end Go.Rex

namespace Go.Rex
open Go.Proofs
open Go Go.Rex Go.RowKit
set_option maxRecDepth 100000
set_option maxHeartbeats 200000
theorem base_Within_spec {v1 : Int} {v2 : Int} {v3 : Int} {v4 : Bool} (hr : base_Within v1 v2 v3 = some (v4)) : Spec (lim Tryz.prog) 17 [.v (.int .i64 v1),.v (.int .i64 v2),.v (.int .i64 v3)] ⟨[.v (.bool v4)],[]⟩:=by
  unfold base_Within at hr
  have T:=trivial
  apply Spec.fn Tryz.func17 rfl
  focus (simp [Tryz.f17]<;>exact rfl)
  focus
    refine wa_ T (g:=?_)
    rcases ifs hr with ⟨h1,hr⟩|⟨h1,hr⟩
    · have T:=an h1 T
      refine wa_ T (g:=?_)
      cases hr
      refine ⟨.inr rfl,_,(ry T),?_⟩
      exact wk_ T [] rfl .nil
    · have T:=an h1 T
      refine wa_ T (g:=?_)
      cases hr
      refine ⟨.inr rfl,_,(ry T),?_⟩
      exact wk_ T [] rfl .nil
  rfl

end Go.Rex

namespace Go.Rex
open Go.Proofs
open Go Go.Rex Go.RowKit
set_option maxRecDepth 100000
set_option maxHeartbeats 200000
def y52:=an @un145 <| @un3
theorem base_Num_spec {v1 : Int} {v2 : Int} {v3 : Nat} {v4 : Nat} (hr : base_Num v1 v2 = some (v3,v4)) : Spec (lim Tryz.prog) 35 [.v (.int .i64 v1),.v (.int .i64 v2)] ⟨[.v (.complex .f64 v3 v4)],[]⟩:=by
  unfold base_Num at hr
  have T:=y52
  apply Spec.fn Tryz.func35 rfl
  focus (simp [Tryz.f35]<;>exact rfl)
  focus
    refine wa_ T (g:=?_)
    apply TO.pop1 (wn T) (cvt_int_float un3 un145 rfl)
    repeat exact sd T
    refine wa_ T (g:=?_)
    apply TO.pop1 (wn T) (cvt_int_float un3 un145 rfl)
    repeat exact sd T
    refine wa_ T (g:=?_)
    apply TO.pop1 (wn T) (pop_complex64 rfl rfl)
    repeat exact sd T
    refine wa_ T (g:=?_)
    cases hr
    refine ⟨.inr rfl,_,(ry T),?_⟩
    exact wr [] rfl .nil
  rfl

end Go.Rex

namespace Go.Rex
open Go.Proofs
open Go Go.Rex Go.RowKit
set_option maxRecDepth 100000

end Go.Rex
