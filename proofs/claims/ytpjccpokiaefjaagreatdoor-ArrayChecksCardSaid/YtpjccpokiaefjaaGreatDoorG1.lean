/- Proofs that the program's functions do what these plain functions say. -/
import Derived.Test.YtpjccpokiaefjaaGreatDoorGB
import Derived.Test.YtpjccpokiaefjaaGreatDoorS
import Derived.Test.YtpjccpokiaefjaaGreatDoorCZ
set_option linter.unusedSimpArgs false
set_option linter.unusedVariables false
set_option linter.defProp false
namespace Go.Rex
open Go.Proofs
open Go Go.Rex Go.RowKit
set_option maxRecDepth 100000
set_option maxHeartbeats 200000
def y1:=an @ag22 <| an @fd24_2 <| @so22
theorem law07_few_spec {v1 : Int} {v2 : Int} {v3 : (List (Int × Int × Int × Int × Int))} {v4 : Bool} (hr : law07_few v1 v2 v3 = some (v4)) : Spec (lim Tryz.prog) 12 [.agg [.v (.int .i64 v1),.v (.int .i64 v2),.list 5 (v3.map e_iiiii)]] ⟨[.v (.bool v4)],[]⟩:=by
  unfold law07_few at hr
  have T:=an y1 <| @e_iiiii.eq_1
  apply Spec.fn Tryz.func12 rfl
  focus (simp [Tryz.f12]<;>exact rfl)
  focus
    refine wD T (g:=?_)
    cases hr
    refine ⟨.inr rfl,_,(ry T),?_⟩
    exact wr [] rfl .nil
  rfl

end Go.Rex

namespace Go.Rex
open Go.Proofs
open Go Go.Rex Go.RowKit
set_option maxRecDepth 100000
set_option maxHeartbeats 200000
def y2:=an @ag22 <| an @ag24 <| an @by40 <| an @cs22 <| an @cs24 <| an @cs40 <| an @fd24_2 <| an @ni22 <| an @ok22 <| an @ok24 <| an @so22 <| an @zc24 <| @zc40
theorem ref07_Copy_spec {v1 : Int} {v2 : Int} {v3 : (List (Int × Int × Int × Int × Int))} {v4 : Int} {v5 : Int} {v6 : (List (Int × Int × Int × Int × Int))} (hr : ref07_Copy v1 v2 v3 = some (v4,v5,v6)) : Spec (lim Tryz.prog) 14 [.agg [.v (.int .i64 v1),.v (.int .i64 v2),.list 5 (v3.map e_iiiii)]] ⟨[.agg [.v (.int .i64 v4),.v (.int .i64 v5),.lsl 0 0 v6.length]],[.rows 5 (v6.map e_iiiii)]⟩:=by
  unfold ref07_Copy at hr
  have T:=an y2 <| @e_iiiii.eq_1
  apply Spec.fn Tryz.func14 rfl
  focus (simp [Tryz.f14]<;>exact rfl)
  focus
    repeat (first|(with_reducible first|refine mv ?_|refine TO.nil ?_)|((with_reducible first|apply TO.bx (dst:=some 1)|apply TO.al);(repeat (focus (show _ = _;first|exact k1 rfl|exact k2 rfl|(simp only [zz,y2,e_iiiii,Nat.reduceAdd,Nat.reduceMul,Nat.reduceLeDiff,Nat.reduceEqDiff]<;>exact rfl)|exact rfl)));(with_reducible apply TO.here))|((with_reducible apply TX.region);(focus (simp only [zl]<;>exact rfl));(focus rfl);(try dsimp only))|fail)
    apply TO.bl e_iiiii ([] : List (Int × Int × Int × Int × Int)) (wn T) rfl (by simp only [zz,y2,e_iiiii,Nat.reduceAdd,Nat.reduceMul,Nat.reduceLeDiff,Nat.reduceEqDiff,tslice,tparts];exact rfl) rfl rfl
    repeat exact sd T
    refine wA T (g:=?_)
    obtain ⟨v7,h1,hr⟩:=bs hr
    apply TO.ap (f:=e_iiiii) (xs:=([] : List (Int × Int × Int × Int × Int))) (ys:=v3) (wn T) rfl rfl (by first|rfl|simp only [List.length_set]) rfl rfl so22 ni22 zc40 rfl (by rw [by40];exact h1) (fun _=>⟨rfl,rfl,rfl⟩)
    repeat exact sd T
    refine wA T (g:=?_)
    cases hr
    refine ⟨.inr rfl,_,(ry T),?_⟩
    exact wr [some 2] rfl (.rows .nil rfl rfl)
  rfl

end Go.Rex

namespace Go.Rex
open Go.Proofs
open Go Go.Rex Go.RowKit
set_option maxRecDepth 100000
set_option maxHeartbeats 200000
def y3:=an @ag3 <| an @ag43 <| an @cs43 <| an @fd118_0 <| an @fd24_0 <| an @fd24_1 <| an @ok43 <| an @st43 <| @zc43
theorem array_rig_sound_spec {v1 : Int} {v2 : Int} {v3 : (List (Int × Int × Int × Int × Int))} {v4 : Int} {v5 : Int} (hr : array_rig_sound v1 v2 v3 = some (v4,v5)) : Spec (lim Tryz.prog) 65 [.agg [.v (.int .i64 v1),.v (.int .i64 v2),.list 5 (v3.map e_iiiii)]] ⟨[.agg [.v (.int .i64 v4),.v (.int .i64 v5)]],[]⟩:=by
  unfold array_rig_sound at hr
  have T:=an y3 <| @e_iiiii.eq_1
  apply Spec.fn Tryz.func65 rfl
  focus (simp [Tryz.f65]<;>exact rfl)
  focus
    refine wB T (g:=?_)
    cases hr
    refine ⟨.inr rfl,_,(ry T),?_⟩
    exact wr [] rfl .nil
  rfl

end Go.Rex

namespace Go.Rex
open Go.Proofs
open Go Go.Rex Go.RowKit
set_option maxRecDepth 100000
set_option maxHeartbeats 200000
theorem array_audible_spec {v1 : Int} {v2 : Int} {v3 : Int} {v4 : Int} (hr : array_audible v1 v2 = some (v3,v4)) : Spec (lim Tryz.prog) 64 [.agg [.v (.int .i64 v1),.v (.int .i64 v2)]] ⟨[.func 122 [] [.fptr true [.v (.int .i64 v3),.v (.int .i64 v4)] 0]],[]⟩:=by
  unfold array_audible at hr
  have T:=trivial
  apply Spec.fn Tryz.func64 rfl
  focus (simp [Tryz.f64]<;>exact rfl)
  focus
    refine wb_ T (g:=?_)
    cases hr
    refine ⟨.inr rfl,_,(ry T),?_⟩
    exact wr [] rfl .nil
  rfl

end Go.Rex

namespace Go.Rex
open Go.Proofs
open Go Go.Rex Go.RowKit
set_option maxRecDepth 100000
set_option maxHeartbeats 200000
theorem array_counted_spec {v1 : Int} {v2 : Int} {v3 : Int} {v4 : Int} (hr : array_counted v1 v2 = some (v3,v4)) : Spec (lim Tryz.prog) 66 [.v (.int .i64 v1),.v (.int .i64 v2)] ⟨[.func 123 [] [.fptr true [.v (.int .i64 v3)] 0,.fptr true [.v (.int .i64 v4)] 0]],[]⟩:=by
  unfold array_counted at hr
  have T:=trivial
  apply Spec.fn Tryz.func66 rfl
  focus (simp [Tryz.f66]<;>exact rfl)
  focus
    refine wb_ T (g:=?_)
    cases hr
    refine ⟨.inr rfl,_,(ry T),?_⟩
    exact wr [] rfl .nil
  rfl

end Go.Rex

namespace Go.Rex
open Go.Proofs
open Go Go.Rex Go.RowKit
set_option maxRecDepth 100000
set_option maxHeartbeats 200000
theorem array_refuse_spec {v1 : Bool} {v2 : Int} {v3 : Bool} {v4 : Int} (hr : array_refuse v1 v2 = some (v3,v4)) : Spec (lim Tryz.prog) 70 [.v (.bool v1),.v (.int .i64 v2)] ⟨[.func 126 [] [.fptr true [.v (.bool v3)] 0,.fptr true [.v (.int .i64 v4)] 0]],[]⟩:=by
  unfold array_refuse at hr
  have T:=trivial
  apply Spec.fn Tryz.func70 rfl
  focus (simp [Tryz.f70]<;>exact rfl)
  focus
    refine wb_ T (g:=?_)
    cases hr
    refine ⟨.inr rfl,_,(ry T),?_⟩
    exact wr [] rfl .nil
  rfl

end Go.Rex

namespace Go.Rex
open Go.Proofs
open Go Go.Rex Go.RowKit
set_option maxRecDepth 100000
set_option maxHeartbeats 200000
theorem array_within_spec {v1 : Int} {v2 : Int} {v3 : Int} {v4 : Bool} {v5 : Int} (hr : array_within v1 v2 v3 = some (v4,v5)) : Spec (lim Tryz.prog) 100 [.v (.int .i64 v1),.v (.int .i64 v2),.v (.int .i64 v3)] ⟨[.func 126 [] [.fptr true [.v (.bool v4)] 0,.fptr true [.v (.int .i64 v5)] 0]],[]⟩:=by
  unfold array_within at hr
  have T:=trivial
  apply Spec.fn Tryz.func100 rfl
  focus (simp [Tryz.f100]<;>exact rfl)
  focus
    refine wa_ T (g:=?_)
    rcases ifs hr with ⟨h1,hr⟩|⟨h1,hr⟩
    · have T:=an h1 T
      refine wa_ T (g:=?_)
      obtain ⟨⟨v6,v7⟩,h2,hr⟩:=bs hr
      try dsimp only at hr
      apply TO.cal (wn T) rfl goFn70 (array_refuse_spec h2) rfl rfl rfl
      repeat exact sd T
      refine wa_ T (g:=?_)
      cases hr
      refine ⟨.inr rfl,_,(ry T),?_⟩
      exact wk_ T [] rfl .nil
    · have T:=an h1 T
      refine wa_ T (g:=?_)
      obtain ⟨⟨v8,v9⟩,h3,hr⟩:=bs hr
      try dsimp only at hr
      apply TO.cal (wn T) rfl goFn70 (array_refuse_spec h3) rfl rfl rfl
      repeat exact sd T
      refine wa_ T (g:=?_)
      cases hr
      refine ⟨.inr rfl,_,(ry T),?_⟩
      exact wk_ T [] rfl .nil
  rfl

end Go.Rex

namespace Go.Rex
open Go.Proofs
open Go Go.Rex Go.RowKit
set_option maxRecDepth 100000
set_option maxHeartbeats 200000
def y4:=an @ag27 <| @ag4
theorem array_refuse_c1_11f9_spec {v1 : Bool} {v2 : Int} {v3 : Int} (hr : array_refuse_c1_11f9 v1 v2 = some (v3)) : Spec (lim Tryz.prog) 126 [.fptr true [.v (.bool v1)] 0,.fptr true [.v (.int .i64 v2)] 0] ⟨[.v (.int .i64 v3)],[]⟩:=by
  unfold array_refuse_c1_11f9 at hr
  have T:=y4
  apply Spec.fn Tryz.func126 rfl
  focus (simp [Tryz.f126]<;>exact rfl)
  focus
    refine wA T (g:=?_)
    rcases ifs hr with ⟨h1,hr⟩|⟨h1,hr⟩
    · have T:=an h1 T
      refine wA T (g:=?_)
      cases hr
      refine ⟨.inr rfl,_,(ry T),?_⟩
      exact wk_ T [] rfl .nil
    · have T:=an h1 T
      refine wa_ T (g:=?_)
      cases hr
      refine ⟨.inr rfl,_,(ry T),?_⟩
      exact wk_ T [] rfl .nil
  rfl

end Go.Rex

namespace Go.Rex
open Go.Proofs
open Go Go.Rex Go.RowKit
set_option maxRecDepth 100000
set_option maxHeartbeats 200000
def y5:=an @ag121 <| an @cs121 <| an @ok121 <| an @so182 <| an @wi64_0a1 <| @wi64_1a1
theorem array_firstError_751b_spec {v1 : Bool} {v2 : Int} {v3 : Bool} {v4 : Int} {v5 : Int} (hr : array_firstError_751b v1 v2 v3 v4 = some (v5)) : Spec (lim Tryz.prog) 63 [.list 1 [[.func 126 [] [.fptr true [.v (.bool v1)] 0,.fptr true [.v (.int .i64 v2)] 0]],[.func 126 [] [.fptr true [.v (.bool v3)] 0,.fptr true [.v (.int .i64 v4)] 0]]]] ⟨[.v (.int .i64 v5)],[]⟩:=by
  unfold array_firstError_751b at hr
  have T:=y5
  apply Spec.fn Tryz.func63 rfl
  focus (simp [Tryz.f63]<;>exact rfl)
  focus
    refine wc_ T (g:=?_)
    refine TX.unroll ?_
    repeat (first|(with_reducible first|refine mv ?_|refine TO.nil ?_)|((with_reducible first|apply TO.bin|apply TO.ia|apply TO.ld|apply TO.asg|apply TO.mv);(repeat (focus (show _ = _;first|exact k1 rfl|exact k2 rfl|(simp only [zz,y5,Nat.reduceAdd,Nat.reduceMul,Nat.reduceLeDiff,Nat.reduceEqDiff,tindexAddr,z5,Int.reduceToNat,Int.reduceLE,Int.reduceLT,Int.cast_ofNat_Int,tload,rowOf,partT,List.getElem?_map]<;>exact rfl)|exact rfl)));(with_reducible apply TO.here))|((with_reducible apply TX.region);(focus (simp only [zl]<;>exact rfl));(focus rfl);(try dsimp only))|((with_reducible apply TX.cond_true);(focus rfl);(focus (first|rfl|(simp only [z1,zn];done))))|((with_reducible apply TX.cond_false);(focus rfl);(focus (first|rfl|(simp only [z1,zn];done))))|fail)
    obtain ⟨v6,h1,hr⟩:=bs hr
    apply TO.cal (wn T) rfl goFn126 (array_refuse_c1_11f9_spec h1) rfl rfl rfl
    repeat exact sd T
    refine wa_ T (g:=?_)
    rcases ifs hr with ⟨h2,hr⟩|⟨h2,hr⟩
    · have T:=an h2 T
      refine wa_ T (g:=?_)
      cases hr
      refine ⟨.inr rfl,_,(ry T),?_⟩
      exact wk_ T [] rfl .nil
    · have T:=an h2 T
      refine wa_ T (g:=?_)
      refine TX.unroll ?_
      repeat (first|(with_reducible first|refine mv ?_|refine TO.nil ?_)|((with_reducible first|apply TO.bin|apply TO.ia|apply TO.ld|apply TO.asg|apply TO.mv);(repeat (focus (show _ = _;first|exact k1 rfl|exact k2 rfl|(simp only [zz,y5,Nat.reduceAdd,Nat.reduceMul,Nat.reduceLeDiff,Nat.reduceEqDiff,tindexAddr,z5,Int.reduceToNat,Int.reduceLE,Int.reduceLT,Int.cast_ofNat_Int,tload,rowOf,partT,List.getElem?_map,h2]<;>exact rfl)|exact rfl)));(with_reducible apply TO.here))|((with_reducible apply TX.region);(focus (simp only [zl]<;>exact rfl));(focus rfl);(try dsimp only))|((with_reducible apply TX.cond_true);(focus rfl);(focus (first|rfl|(simp only [z1,zn,h2];done))))|((with_reducible apply TX.cond_false);(focus rfl);(focus (first|rfl|(simp only [z1,zn,h2];done))))|fail)
      obtain ⟨v7,h3,hr⟩:=bs hr
      apply TO.cal (wn T) rfl goFn126 (array_refuse_c1_11f9_spec h3) rfl rfl rfl
      repeat exact sd T
      refine wa_ T (g:=?_)
      rcases ifs hr with ⟨h4,hr⟩|⟨h4,hr⟩
      · have T:=an h4 T
        refine wa_ T (g:=?_)
        cases hr
        refine ⟨.inr rfl,_,(ry T),?_⟩
        exact wk_ T [] rfl .nil
      · have T:=an h4 T
        refine wa_ T (g:=?_)
        refine TX.unroll ?_
        refine wa_ T (g:=?_)
        cases hr
        refine ⟨.inr rfl,_,(ry T),?_⟩
        exact wk_ T [] rfl .nil
  rfl

end Go.Rex

namespace Go.Rex
open Go.Proofs
open Go Go.Rex Go.RowKit
set_option maxRecDepth 100000
set_option maxHeartbeats 200000
def y6:=an @ag3 <| an @cs121 <| an @fd43_0 <| an @fd43_1 <| an @so182 <| @zc121
theorem array_audible_c1_eebc_spec {v1 : Int} {v2 : Int} {v3 : Int} (hr : array_audible_c1_eebc v1 v2 = some (v3)) : Spec (lim Tryz.prog) 122 [.fptr true [.v (.int .i64 v1),.v (.int .i64 v2)] 0] ⟨[.v (.int .i64 v3)],[]⟩:=by
  unfold array_audible_c1_eebc at hr
  have T:=y6
  apply Spec.fn Tryz.func122 rfl
  focus (simp [Tryz.f122]<;>exact rfl)
  focus
    refine wA T (g:=?_)
    obtain ⟨⟨v4,v5⟩,h1,hr⟩:=bs hr
    try dsimp only at hr
    apply TD.cal (wn T) rfl goFn100 (array_within_spec h1) rfl rfl rfl
    repeat exact sd T
    refine wA T (g:=?_)
    obtain ⟨⟨v6,v7⟩,h2,hr⟩:=bs hr
    try dsimp only at hr
    apply TD.cal (wn T) rfl goFn100 (array_within_spec h2) rfl rfl rfl
    repeat exact sd T
    refine we_ T (g:=?_)
    obtain ⟨v8,h3,hr⟩:=bs hr
    apply TD.cal (wn T) rfl goFn63 (array_firstError_751b_spec h3) rfl rfl rfl
    repeat exact sd T
    refine wa_ T (g:=?_)
    cases hr
    refine ⟨.inr rfl,_,(ry T),?_⟩
    exact wr [] rfl .nil
  rfl

end Go.Rex

namespace Go.Rex
open Go.Proofs
open Go Go.Rex Go.RowKit
set_option maxRecDepth 100000
set_option maxHeartbeats 200000
def y7:=an @ag3 <| an @cs121 <| an @so182 <| @zc121
theorem array_counted_c1_b585_spec {v1 : Int} {v2 : Int} {v3 : Int} (hr : array_counted_c1_b585 v1 v2 = some (v3)) : Spec (lim Tryz.prog) 123 [.fptr true [.v (.int .i64 v1)] 0,.fptr true [.v (.int .i64 v2)] 0] ⟨[.v (.int .i64 v3)],[]⟩:=by
  unfold array_counted_c1_b585 at hr
  have T:=y7
  apply Spec.fn Tryz.func123 rfl
  focus (simp [Tryz.f123]<;>exact rfl)
  focus
    refine wA T (g:=?_)
    obtain ⟨⟨v4,v5⟩,h1,hr⟩:=bs hr
    try dsimp only at hr
    apply TD.cal (wn T) rfl goFn70 (array_refuse_spec h1) rfl rfl rfl
    repeat exact sd T
    refine wA T (g:=?_)
    obtain ⟨⟨v6,v7⟩,h2,hr⟩:=bs hr
    try dsimp only at hr
    apply TD.cal (wn T) rfl goFn70 (array_refuse_spec h2) rfl rfl rfl
    repeat exact sd T
    refine we_ T (g:=?_)
    obtain ⟨v8,h3,hr⟩:=bs hr
    apply TD.cal (wn T) rfl goFn63 (array_firstError_751b_spec h3) rfl rfl rfl
    repeat exact sd T
    refine wa_ T (g:=?_)
    cases hr
    refine ⟨.inr rfl,_,(ry T),?_⟩
    exact wr [] rfl .nil
  rfl

end Go.Rex

namespace Go.Rex
open Go.Proofs
open Go Go.Rex Go.RowKit
set_option maxRecDepth 100000
set_option maxHeartbeats 200000
def y8:=an @ag121 <| an @cs121 <| an @ok121 <| an @so182 <| an @wi64_0a1 <| @wi64_1a1
theorem array_firstError_2e50_spec {v1 : Int} {v2 : Int} {v3 : Int} {v4 : Int} {v5 : Int} (hr : array_firstError_2e50 v1 v2 v3 v4 = some (v5)) : Spec (lim Tryz.prog) 63 [.list 1 [[.func 122 [] [.fptr true [.v (.int .i64 v1),.v (.int .i64 v2)] 0]],[.func 123 [] [.fptr true [.v (.int .i64 v3)] 0,.fptr true [.v (.int .i64 v4)] 0]]]] ⟨[.v (.int .i64 v5)],[]⟩:=by
  unfold array_firstError_2e50 at hr
  have T:=y8
  apply Spec.fn Tryz.func63 rfl
  focus (simp [Tryz.f63]<;>exact rfl)
  focus
    refine wc_ T (g:=?_)
    refine TX.unroll ?_
    repeat (first|(with_reducible first|refine mv ?_|refine TO.nil ?_)|((with_reducible first|apply TO.bin|apply TO.ia|apply TO.ld|apply TO.asg|apply TO.mv);(repeat (focus (show _ = _;first|exact k1 rfl|exact k2 rfl|(simp only [zz,y8,Nat.reduceAdd,Nat.reduceMul,Nat.reduceLeDiff,Nat.reduceEqDiff,tindexAddr,z5,Int.reduceToNat,Int.reduceLE,Int.reduceLT,Int.cast_ofNat_Int,tload,rowOf,partT,List.getElem?_map]<;>exact rfl)|exact rfl)));(with_reducible apply TO.here))|((with_reducible apply TX.region);(focus (simp only [zl]<;>exact rfl));(focus rfl);(try dsimp only))|((with_reducible apply TX.cond_true);(focus rfl);(focus (first|rfl|(simp only [z1,zn];done))))|((with_reducible apply TX.cond_false);(focus rfl);(focus (first|rfl|(simp only [z1,zn];done))))|fail)
    obtain ⟨v6,h1,hr⟩:=bs hr
    apply TO.cal (wn T) rfl goFn122 (array_audible_c1_eebc_spec h1) rfl rfl rfl
    repeat exact sd T
    refine wa_ T (g:=?_)
    rcases ifs hr with ⟨h2,hr⟩|⟨h2,hr⟩
    · have T:=an h2 T
      refine wa_ T (g:=?_)
      cases hr
      refine ⟨.inr rfl,_,(ry T),?_⟩
      exact wk_ T [] rfl .nil
    · have T:=an h2 T
      refine wa_ T (g:=?_)
      refine TX.unroll ?_
      repeat (first|(with_reducible first|refine mv ?_|refine TO.nil ?_)|((with_reducible first|apply TO.bin|apply TO.ia|apply TO.ld|apply TO.asg|apply TO.mv);(repeat (focus (show _ = _;first|exact k1 rfl|exact k2 rfl|(simp only [zz,y8,Nat.reduceAdd,Nat.reduceMul,Nat.reduceLeDiff,Nat.reduceEqDiff,tindexAddr,z5,Int.reduceToNat,Int.reduceLE,Int.reduceLT,Int.cast_ofNat_Int,tload,rowOf,partT,List.getElem?_map,h2]<;>exact rfl)|exact rfl)));(with_reducible apply TO.here))|((with_reducible apply TX.region);(focus (simp only [zl]<;>exact rfl));(focus rfl);(try dsimp only))|((with_reducible apply TX.cond_true);(focus rfl);(focus (first|rfl|(simp only [z1,zn,h2];done))))|((with_reducible apply TX.cond_false);(focus rfl);(focus (first|rfl|(simp only [z1,zn,h2];done))))|fail)
      obtain ⟨v7,h3,hr⟩:=bs hr
      apply TO.cal (wn T) rfl goFn123 (array_counted_c1_b585_spec h3) rfl rfl rfl
      repeat exact sd T
      refine wa_ T (g:=?_)
      rcases ifs hr with ⟨h4,hr⟩|⟨h4,hr⟩
      · have T:=an h4 T
        refine wa_ T (g:=?_)
        cases hr
        refine ⟨.inr rfl,_,(ry T),?_⟩
        exact wk_ T [] rfl .nil
      · have T:=an h4 T
        refine wa_ T (g:=?_)
        refine TX.unroll ?_
        refine wa_ T (g:=?_)
        cases hr
        refine ⟨.inr rfl,_,(ry T),?_⟩
        exact wk_ T [] rfl .nil
  rfl

end Go.Rex

namespace Go.Rex
open Go.Proofs
open Go Go.Rex Go.RowKit
set_option maxRecDepth 100000
set_option maxHeartbeats 200000
theorem array_each_aa71_spec {v1 : Int} {v2 : (List Int)} {v3 : Int} {v4 : Int} {v5 : Int} {v6 : (List Int)} {v7 : Int} {v8 : Int} (hr : array_each_aa71 v1 v2 v3 v4 = some (v5,v6,v7,v8)) : Spec (lim Tryz.prog) 143 [.v (.int .i64 v1),.func 162 [] [.fptr true [.list 1 (v2.map e_i)] 0,.fptr true [.v (.int .i64 v3)] 0,.fptr true [.v (.int .i64 v4)] 0]] ⟨[.func 168 [] [.fptr true [.v (.int .i64 v5)] 0,.fptr true [.func 162 [] [.fptr true [.list 1 (v6.map e_i)] 0,.fptr true [.v (.int .i64 v7)] 0,.fptr true [.v (.int .i64 v8)] 0]] 0]],[]⟩:=by
  unfold array_each_aa71 at hr
  have T:=@e_i.eq_1
  apply Spec.fn Tryz.func143 rfl
  focus (simp [Tryz.f143]<;>exact rfl)
  focus
    refine wb_ T (g:=?_)
    cases hr
    refine ⟨.inr rfl,_,(ry T),?_⟩
    exact wr [] rfl .nil
  rfl

end Go.Rex

namespace Go.Rex
open Go.Proofs
open Go Go.Rex Go.RowKit
set_option maxRecDepth 100000
set_option maxHeartbeats 200000
def y9:=an @ag87 <| @so87
theorem array_allWithin_spec {v1 : (List Int)} {v2 : Int} {v3 : Int} {v4 : Int} {v5 : (List Int)} {v6 : Int} {v7 : Int} (hr : array_allWithin v1 v2 v3 = some (v4,v5,v6,v7)) : Spec (lim Tryz.prog) 124 [.list 1 (v1.map e_i),.v (.int .i64 v2),.v (.int .i64 v3)] ⟨[.func 168 [] [.fptr true [.v (.int .i64 v4)] 0,.fptr true [.func 162 [] [.fptr true [.list 1 (v5.map e_i)] 0,.fptr true [.v (.int .i64 v6)] 0,.fptr true [.v (.int .i64 v7)] 0]] 0]],[]⟩:=by
  unfold array_allWithin at hr
  have T:=an y9 <| @e_i.eq_1
  apply Spec.fn Tryz.func124 rfl
  focus (simp [Tryz.f124]<;>exact rfl)
  focus
    refine wD T (g:=?_)
    obtain ⟨⟨v8,v9,v10,v11⟩,h1,hr⟩:=bs hr
    try dsimp only at hr
    apply TO.cal (wn T) rfl goFn143 (array_each_aa71_spec h1) rfl rfl rfl
    repeat exact sd T
    refine wa_ T (g:=?_)
    cases hr
    refine ⟨.inr rfl,_,(ry T),?_⟩
    exact wr [] rfl .nil
  rfl

end Go.Rex

namespace Go.Rex
open Go.Proofs
open Go Go.Rex Go.RowKit
set_option maxRecDepth 100000
set_option maxHeartbeats 200000
def y10:=an @ag3 <| an @cs3 <| an @fd38_0 <| an @fd38_1 <| an @fd38_2 <| an @so87 <| @zc3
theorem array_placed_spec {v1 : Int} {v2 : Int} {v3 : Int} {v4 : Int} {v5 : (List Int)} {v6 : Int} {v7 : Int} (hr : array_placed v1 v2 v3 = some (v4,v5,v6,v7)) : Spec (lim Tryz.prog) 67 [.agg [.v (.int .i64 v1),.v (.int .i64 v2),.v (.int .i64 v3)]] ⟨[.func 168 [] [.fptr true [.v (.int .i64 v4)] 0,.fptr true [.func 162 [] [.fptr true [.list 1 (v5.map e_i)] 0,.fptr true [.v (.int .i64 v6)] 0,.fptr true [.v (.int .i64 v7)] 0]] 0]],[]⟩:=by
  unfold array_placed at hr
  have T:=an y10 <| @e_i.eq_1
  apply Spec.fn Tryz.func67 rfl
  focus (simp [Tryz.f67]<;>exact rfl)
  focus
    refine wB T (g:=?_)
    apply TO.bm e_i ([v1,v2,v3] : List Int) (wn T) rfl (by simp only [zz,y10,e_i,Nat.reduceAdd,Nat.reduceMul,Nat.reduceLeDiff,Nat.reduceEqDiff,tslice,tparts];exact rfl) rfl
    repeat exact sd T
    refine wa_ T (g:=?_)
    obtain ⟨⟨v8,v9,v10,v11⟩,h1,hr⟩:=bs hr
    try dsimp only at hr
    apply TO.cal (wn T) rfl goFn124 (array_allWithin_spec h1) rfl rfl rfl
    repeat exact sd T
    refine wa_ T (g:=?_)
    cases hr
    refine ⟨.inr rfl,_,(ry T),?_⟩
    exact wr [] rfl .nil
  rfl

end Go.Rex

namespace Go.Rex
open Go.Proofs
open Go Go.Rex Go.RowKit
set_option maxRecDepth 100000
set_option maxHeartbeats 200000
theorem array_adjusted_spec {v1 : Int} {v2 : Int} {v3 : Int} {v4 : Int} (hr : array_adjusted v1 v2 = some (v3,v4)) : Spec (lim Tryz.prog) 68 [.v (.int .i64 v1),.v (.int .i64 v2)] ⟨[.func 125 [] [.fptr true [.v (.int .i64 v3)] 0,.fptr true [.v (.int .i64 v4)] 0]],[]⟩:=by
  unfold array_adjusted at hr
  have T:=trivial
  apply Spec.fn Tryz.func68 rfl
  focus (simp [Tryz.f68]<;>exact rfl)
  focus
    refine wb_ T (g:=?_)
    cases hr
    refine ⟨.inr rfl,_,(ry T),?_⟩
    exact wr [] rfl .nil
  rfl

end Go.Rex

namespace Go.Rex
open Go.Proofs
open Go Go.Rex Go.RowKit
set_option maxRecDepth 100000
set_option maxHeartbeats 200000
def y11:=an @ag3 <| an @ag87 <| an @cs3 <| an @ok3 <| @so87
theorem array_allWithin_c1_ea58_spec {v1 : Int} {v2 : (List Int)} {v3 : Int} {v4 : Int} {v5 : Int} (hr : array_allWithin_c1_ea58 v1 v2 v3 v4 = some (v5)) : Spec (lim Tryz.prog) 162 [.v (.int .i64 v1),.fptr true [.list 1 (v2.map e_i)] 0,.fptr true [.v (.int .i64 v3)] 0,.fptr true [.v (.int .i64 v4)] 0] ⟨[.v (.int .i64 v5)],[]⟩:=by
  unfold array_allWithin_c1_ea58 at hr
  have T:=an y11 <| @e_i.eq_1
  apply Spec.fn Tryz.func162 rfl
  focus (simp [Tryz.f162]<;>exact rfl)
  focus
    refine wA T (g:=?_)
    obtain ⟨v6,h1,hr⟩:=bs hr
    have T:=an (gx e_i h1) T
    refine wA T (g:=?_)
    obtain ⟨⟨v7,v8⟩,h2,hr⟩:=bs hr
    try dsimp only at hr
    apply TD.cal (wn T) rfl goFn100 (array_within_spec h2) rfl rfl rfl
    repeat exact sd T
    refine wa_ T (g:=?_)
    obtain ⟨v9,h3,hr⟩:=bs hr
    apply TD.cal (wn T) rfl goFn126 (array_refuse_c1_11f9_spec h3) rfl rfl rfl
    repeat exact sd T
    refine wa_ T (g:=?_)
    cases hr
    refine ⟨.inr rfl,_,(ry T),?_⟩
    exact wr [] rfl .nil
  rfl

end Go.Rex

namespace Go.Rex
open Go.Proofs
open Go Go.Rex Go.RowKit
set_option maxRecDepth 100000
set_option maxHeartbeats 200000
def y12:=an @ag195 <| an @ag3 <| @wi64_0a1
theorem array_each_c1_6239_spec {v1 : Int} {v2 : (List Int)} {v3 : Int} {v4 : Int} {v5 : Int} (hr : array_each_c1_6239 v1 v2 v3 v4 = some (v5)) : Spec (lim Tryz.prog) 168 [.fptr true [.v (.int .i64 v1)] 0,.fptr true [.func 162 [] [.fptr true [.list 1 (v2.map e_i)] 0,.fptr true [.v (.int .i64 v3)] 0,.fptr true [.v (.int .i64 v4)] 0]] 0] ⟨[.v (.int .i64 v5)],[]⟩:=by
  unfold array_each_c1_6239 at hr
  have T:=an y12 <| @e_i.eq_1
  apply Spec.fn Tryz.func168 rfl
  focus (simp [Tryz.f168]<;>exact rfl)
  focus
    refine wA T (g:=?_)
    obtain ⟨v10,h7,hr⟩:=bs hr
    refine TX.loopE (step:=array_each_c1_6239_l1 v1 v2 v3 v4) (x:=0) h7 (fun v6=>⟨.junk :: .fptr true [.func 162 [] [.fptr true [.list 1 (v2.map e_i)] 0,.fptr true [.v (.int .i64 v3)] 0,.fptr true [.v (.int .i64 v4)] 0]] 0 :: .junk :: .junk :: .junk :: .v (.int .i64 v1) :: .v (.int .i64 v6) :: .junk :: .junk :: .junk :: .junk :: .junk :: .junk :: .junk :: .junk :: .junk :: [],[]⟩) (fun e=>match e with|(.inl v8)=>(.ret,⟨.junk :: .junk :: .v (.int .i64 v8) :: .junk :: .junk :: .junk :: .junk :: .junk :: .junk :: .junk :: .junk :: .junk :: .junk :: .junk :: .junk :: .junk :: [],[]⟩)|(.inr _)=>(.exit 0,⟨.junk :: .junk :: .junk :: .junk :: .junk :: .junk :: .junk :: .junk :: .junk :: .junk :: .junk :: .junk :: .junk :: .junk :: .junk :: .junk :: [],[]⟩)) ?_ ?_ ?_ ?_
    · rintro v6 v0 hr
      dsimp only [array_each_c1_6239_l1] at hr
      try dsimp only
      refine wa_ T (g:=?_)
      rcases ifs hr with ⟨h4,hr⟩|⟨h4,hr⟩
      · have T:=an h4 T
        refine wA T (g:=?_)
        obtain ⟨v9,h5,hr⟩:=bs hr
        apply TO.cal (wn T) rfl goFn162 (array_allWithin_c1_ea58_spec h5) rfl rfl rfl
        repeat exact sd T
        refine wa_ T (g:=?_)
        rcases ifs hr with ⟨h6,hr⟩|⟨h6,hr⟩
        · have T:=an h6 T
          refine wa_ T (g:=?_)
          cases hr
          refine ⟨rfl,?_⟩
          exact wk_ T [] rfl .nil
        · have T:=an h6 T
          refine wa_ T (g:=?_)
          cases hr
          refine ⟨rfl,?_⟩
          exact wk_ T [] rfl .nil
      · have T:=an h4 T
        refine wa_ T (g:=?_)
        cases hr
        refine ⟨rfl,?_⟩
        exact wk_ T [] rfl .nil
    · intro e h;rcases e with _|e<;>cases h
    · try dsimp only
      rcases v10 with v11|_
      · try dsimp only at hr
        try dsimp only
        refine wa_ T (g:=?_)
        cases hr
        refine ⟨.inr rfl,_,(ry T),?_⟩
        exact wr [] rfl .nil
      · try dsimp only at hr
        try dsimp only
        refine wa_ T (g:=?_)
        cases hr
        refine ⟨.inr rfl,_,(ry T),?_⟩
        exact wr [] rfl .nil
    · try dsimp only
      exact wr [] rfl .nil
  rfl

end Go.Rex

namespace Go.Rex
open Go.Proofs
open Go Go.Rex Go.RowKit
set_option maxRecDepth 100000
set_option maxHeartbeats 200000
def y13:=an @ag3 <| an @cs121 <| an @so182 <| @zc121
theorem array_adjusted_c1_b585_spec {v1 : Int} {v2 : Int} {v3 : Int} (hr : array_adjusted_c1_b585 v1 v2 = some (v3)) : Spec (lim Tryz.prog) 125 [.fptr true [.v (.int .i64 v1)] 0,.fptr true [.v (.int .i64 v2)] 0] ⟨[.v (.int .i64 v3)],[]⟩:=by
  unfold array_adjusted_c1_b585 at hr
  have T:=y13
  apply Spec.fn Tryz.func125 rfl
  focus (simp [Tryz.f125]<;>exact rfl)
  focus
    refine wA T (g:=?_)
    obtain ⟨⟨v4,v5⟩,h1,hr⟩:=bs hr
    try dsimp only at hr
    apply TD.cal (wn T) rfl goFn100 (array_within_spec h1) rfl rfl rfl
    repeat exact sd T
    refine wA T (g:=?_)
    obtain ⟨⟨v6,v7⟩,h2,hr⟩:=bs hr
    try dsimp only at hr
    apply TD.cal (wn T) rfl goFn100 (array_within_spec h2) rfl rfl rfl
    repeat exact sd T
    refine we_ T (g:=?_)
    obtain ⟨v8,h3,hr⟩:=bs hr
    apply TD.cal (wn T) rfl goFn63 (array_firstError_751b_spec h3) rfl rfl rfl
    repeat exact sd T
    refine wa_ T (g:=?_)
    cases hr
    refine ⟨.inr rfl,_,(ry T),?_⟩
    exact wr [] rfl .nil
  rfl

end Go.Rex

namespace Go.Rex
open Go.Proofs
open Go Go.Rex Go.RowKit
set_option maxRecDepth 100000
set_option maxHeartbeats 200000
def y14:=an @ag121 <| an @cs121 <| an @ok121 <| an @so182 <| an @wi64_0a1 <| @wi64_1a1
theorem array_firstError_34f2_spec {v1 : Int} {v2 : (List Int)} {v3 : Int} {v4 : Int} {v5 : Int} {v6 : Int} {v7 : Int} (hr : array_firstError_34f2 v1 v2 v3 v4 v5 v6 = some (v7)) : Spec (lim Tryz.prog) 63 [.list 1 [[.func 168 [] [.fptr true [.v (.int .i64 v1)] 0,.fptr true [.func 162 [] [.fptr true [.list 1 (v2.map e_i)] 0,.fptr true [.v (.int .i64 v3)] 0,.fptr true [.v (.int .i64 v4)] 0]] 0]],[.func 125 [] [.fptr true [.v (.int .i64 v5)] 0,.fptr true [.v (.int .i64 v6)] 0]]]] ⟨[.v (.int .i64 v7)],[]⟩:=by
  unfold array_firstError_34f2 at hr
  have T:=an y14 <| @e_i.eq_1
  apply Spec.fn Tryz.func63 rfl
  focus (simp [Tryz.f63]<;>exact rfl)
  focus
    refine wc_ T (g:=?_)
    refine TX.unroll ?_
    repeat (first|(with_reducible first|refine mv ?_|refine TO.nil ?_)|((with_reducible first|apply TO.bin|apply TO.ia|apply TO.ld|apply TO.asg|apply TO.mv);(repeat (focus (show _ = _;first|exact k1 rfl|exact k2 rfl|(simp only [zz,y14,e_i,Nat.reduceAdd,Nat.reduceMul,Nat.reduceLeDiff,Nat.reduceEqDiff,tindexAddr,z5,Int.reduceToNat,Int.reduceLE,Int.reduceLT,Int.cast_ofNat_Int,tload,rowOf,partT,List.getElem?_map]<;>exact rfl)|exact rfl)));(with_reducible apply TO.here))|((with_reducible apply TX.region);(focus (simp only [zl]<;>exact rfl));(focus rfl);(try dsimp only))|((with_reducible apply TX.cond_true);(focus rfl);(focus (first|rfl|(simp only [z1,zn];done))))|((with_reducible apply TX.cond_false);(focus rfl);(focus (first|rfl|(simp only [z1,zn];done))))|fail)
    obtain ⟨v8,h1,hr⟩:=bs hr
    apply TO.cal (wn T) rfl goFn168 (array_each_c1_6239_spec h1) rfl rfl rfl
    repeat exact sd T
    refine wa_ T (g:=?_)
    rcases ifs hr with ⟨h2,hr⟩|⟨h2,hr⟩
    · have T:=an h2 T
      refine wa_ T (g:=?_)
      cases hr
      refine ⟨.inr rfl,_,(ry T),?_⟩
      exact wk_ T [] rfl .nil
    · have T:=an h2 T
      refine wa_ T (g:=?_)
      refine TX.unroll ?_
      repeat (first|(with_reducible first|refine mv ?_|refine TO.nil ?_)|((with_reducible first|apply TO.bin|apply TO.ia|apply TO.ld|apply TO.asg|apply TO.mv);(repeat (focus (show _ = _;first|exact k1 rfl|exact k2 rfl|(simp only [zz,y14,e_i,Nat.reduceAdd,Nat.reduceMul,Nat.reduceLeDiff,Nat.reduceEqDiff,tindexAddr,z5,Int.reduceToNat,Int.reduceLE,Int.reduceLT,Int.cast_ofNat_Int,tload,rowOf,partT,List.getElem?_map,h2]<;>exact rfl)|exact rfl)));(with_reducible apply TO.here))|((with_reducible apply TX.region);(focus (simp only [zl]<;>exact rfl));(focus rfl);(try dsimp only))|((with_reducible apply TX.cond_true);(focus rfl);(focus (first|rfl|(simp only [z1,zn,h2];done))))|((with_reducible apply TX.cond_false);(focus rfl);(focus (first|rfl|(simp only [z1,zn,h2];done))))|fail)
      obtain ⟨v9,h3,hr⟩:=bs hr
      apply TO.cal (wn T) rfl goFn125 (array_adjusted_c1_b585_spec h3) rfl rfl rfl
      repeat exact sd T
      refine wa_ T (g:=?_)
      rcases ifs hr with ⟨h4,hr⟩|⟨h4,hr⟩
      · have T:=an h4 T
        refine wa_ T (g:=?_)
        cases hr
        refine ⟨.inr rfl,_,(ry T),?_⟩
        exact wk_ T [] rfl .nil
      · have T:=an h4 T
        refine wa_ T (g:=?_)
        refine TX.unroll ?_
        refine wa_ T (g:=?_)
        cases hr
        refine ⟨.inr rfl,_,(ry T),?_⟩
        exact wk_ T [] rfl .nil
  rfl

end Go.Rex

namespace Go.Rex
open Go.Proofs
open Go Go.Rex Go.RowKit
set_option maxRecDepth 100000
set_option maxHeartbeats 1000000
def y15:=an @ag118 <| an @ag22 <| an @ag24 <| an @ag3 <| an @ag38 <| an @ag40 <| an @cs118 <| an @cs121 <| an @cs24 <| an @cs38 <| an @cs40 <| an @fd118_0 <| an @fd24_2 <| an @fd40_0 <| an @fd40_1 <| an @fd40_2 <| an @ok118 <| an @ok24 <| an @ok38 <| an @ok40 <| an @so182 <| an @so22 <| an @st118 <| an @zc118 <| an @zc121 <| an @zc40 <| @wi64_0a1
theorem array_CheckArray_spec {v1 : Int} {v2 : Int} {v3 : (List (Int × Int × Int × Int × Int))} {v4 : Int} {v5 : Int} (hr : array_CheckArray v1 v2 v3 = some (v4,v5)) : Spec (lim Tryz.prog) 13 [.agg [.v (.int .i64 v1),.v (.int .i64 v2),.list 5 (v3.map e_iiiii)]] ⟨[.tuple [.v (.int .i64 v4),.v (.int .i64 v5)]],[]⟩:=by
  unfold array_CheckArray at hr
  have T:=an y15 <| @e_iiiii.eq_1
  apply Spec.fn Tryz.func13 rfl
  focus (simp [Tryz.f13]<;>exact rfl)
  focus
    refine wB T (g:=?_)
    obtain ⟨⟨v6,v7⟩,h1,hr⟩:=bs hr
    try dsimp only at hr
    apply TD.cal (wn T) rfl goFn65 (array_rig_sound_spec h1) rfl rfl rfl
    repeat exact sd T
    refine wa_ T (g:=?_)
    obtain ⟨⟨v8,v9⟩,h2,hr⟩:=bs hr
    try dsimp only at hr
    apply TD.cal (wn T) rfl goFn64 (array_audible_spec h2) rfl rfl rfl
    repeat exact sd T
    refine wC T (g:=?_)
    obtain ⟨⟨v10,v11⟩,h3,hr⟩:=bs hr
    try dsimp only at hr
    apply TD.cal (wn T) rfl goFn66 (array_counted_spec h3) rfl rfl rfl
    repeat exact sd T
    refine we_ T (g:=?_)
    obtain ⟨v12,h4,hr⟩:=bs hr
    apply TD.cal (wn T) rfl goFn63 (array_firstError_2e50_spec h4) rfl rfl rfl
    repeat exact sd T
    refine wa_ T (g:=?_)
    rcases ifs hr with ⟨h5,hr⟩|⟨h5,hr⟩
    · have T:=an h5 T
      refine wa_ T (g:=?_)
      cases hr
      refine ⟨.inr rfl,_,(ry T),?_⟩
      exact wk_ T [] rfl .nil
    · have T:=an h5 T
      refine wC T (g:=?_)
      obtain ⟨v40,h18,hr⟩:=bs hr
      refine TX.loopE (step:=array_CheckArray_l1 v3) (x:=0) h18 (fun v13=>⟨.junk :: .junk :: .junk :: .junk :: .junk :: .junk :: .junk :: .junk :: .junk :: .junk :: .junk :: .junk :: .junk :: .junk :: .junk :: .junk :: .junk :: .junk :: .junk :: .junk :: .junk :: .junk :: .junk :: .junk :: .junk :: .junk :: .list 5 (v3.map e_iiiii) :: .v (.int .i64 (v3.length : Int)) :: .v (.int .i64 v13) :: .junk :: .junk :: .junk :: .junk :: .junk :: .junk :: .junk :: .junk :: .junk :: .junk :: .junk :: .junk :: .junk :: .junk :: .junk :: .junk :: .junk :: .junk :: .junk :: [],[]⟩) (fun e=>match e with|(.inl (v26,v27))=>(.ret,⟨.junk :: .junk :: .v (.int .i64 v26) :: .v (.int .i64 v27) :: .junk :: .junk :: .junk :: .junk :: .junk :: .junk :: .junk :: .junk :: .junk :: .junk :: .junk :: .junk :: .junk :: .junk :: .junk :: .junk :: .junk :: .junk :: .junk :: .junk :: .junk :: .junk :: .junk :: .junk :: .junk :: .junk :: .junk :: .junk :: .junk :: .junk :: .junk :: .junk :: .junk :: .junk :: .junk :: .junk :: .junk :: .junk :: .junk :: .junk :: .junk :: .junk :: .junk :: .junk :: [],[]⟩)|(.inr _)=>(.exit 0,⟨.junk :: .junk :: .junk :: .junk :: .junk :: .junk :: .junk :: .junk :: .junk :: .junk :: .junk :: .junk :: .junk :: .junk :: .junk :: .junk :: .junk :: .junk :: .junk :: .junk :: .junk :: .junk :: .junk :: .junk :: .junk :: .junk :: .junk :: .junk :: .junk :: .junk :: .junk :: .junk :: .junk :: .junk :: .junk :: .junk :: .junk :: .junk :: .junk :: .junk :: .junk :: .junk :: .junk :: .junk :: .junk :: .junk :: .junk :: .junk :: [],[]⟩)) ?_ ?_ ?_ ?_
      · rintro v13 v0 hr
        dsimp only [array_CheckArray_l1] at hr
        try dsimp only
        refine wa_ T (g:=?_)
        rcases ifs hr with ⟨h12,hr⟩|⟨h12,hr⟩
        · have T:=an h12 T
          refine wa_ T (g:=?_)
          obtain ⟨⟨v28,v29,v30,v31,v32⟩,h13,hr⟩:=bs hr
          try dsimp only at hr
          have T:=an (gx e_iiiii h13) T
          refine wA T (g:=?_)
          obtain ⟨⟨v33,v34,v35,v36⟩,h14,hr⟩:=bs hr
          try dsimp only at hr
          apply TD.cal (wn T) rfl goFn67 (array_placed_spec h14) rfl rfl rfl
          repeat exact sd T
          refine wA T (g:=?_)
          obtain ⟨⟨v37,v38⟩,h15,hr⟩:=bs hr
          try dsimp only at hr
          apply TD.cal (wn T) rfl goFn68 (array_adjusted_spec h15) rfl rfl rfl
          repeat exact sd T
          refine we_ T (g:=?_)
          obtain ⟨v39,h16,hr⟩:=bs hr
          apply TD.cal (wn T) rfl goFn63 (array_firstError_34f2_spec h16) rfl rfl rfl
          repeat exact sd T
          refine wa_ T (g:=?_)
          rcases ifs hr with ⟨h17,hr⟩|⟨h17,hr⟩
          · have T:=an h17 T
            refine wa_ T (g:=?_)
            cases hr
            refine ⟨rfl,?_⟩
            exact wk_ T [] rfl .nil
          · have T:=an h17 T
            refine wa_ T (g:=?_)
            cases hr
            refine ⟨rfl,?_⟩
            exact wk_ T [] rfl .nil
        · have T:=an h12 T
          refine wa_ T (g:=?_)
          cases hr
          refine ⟨rfl,?_⟩
          exact wk_ T [] rfl .nil
      · intro e h;rcases e with _|e<;>cases h
      · try dsimp only
        rcases v40 with ⟨v41,v42⟩|_
        · try dsimp only at hr
          try dsimp only
          refine wa_ T (g:=?_)
          cases hr
          refine ⟨.inr rfl,_,(ry T),?_⟩
          exact wk_ T [] rfl .nil
        · try dsimp only at hr
          try dsimp only
          refine wa_ T (g:=?_)
          cases hr
          refine ⟨.inr rfl,_,(ry T),?_⟩
          exact wk_ T [] rfl .nil
      · try dsimp only
        exact wk_ T [] rfl .nil
  rfl

end Go.Rex

namespace Go.Rex
open Go.Proofs
open Go Go.Rex Go.RowKit
set_option maxRecDepth 100000
set_option maxHeartbeats 200000
def y16:=an @ag24 <| an @cs24 <| an @fd118_0 <| @ok24
theorem array_rig_check_spec {v1 : Int} {v2 : Int} {v3 : (List (Int × Int × Int × Int × Int))} {v4 : Int} (hr : array_rig_check v1 v2 v3 = some (v4)) : Spec (lim Tryz.prog) 69 [.agg [.v (.int .i64 v1),.v (.int .i64 v2),.list 5 (v3.map e_iiiii)]] ⟨[.v (.int .i64 v4)],[]⟩:=by
  unfold array_rig_check at hr
  have T:=an y16 <| @e_iiiii.eq_1
  apply Spec.fn Tryz.func69 rfl
  focus (simp [Tryz.f69]<;>exact rfl)
  focus
    refine wB T (g:=?_)
    obtain ⟨⟨v5,v6⟩,h1,hr⟩:=bs hr
    try dsimp only at hr
    apply TO.cal (wn T) rfl goFn13 (array_CheckArray_spec h1) rfl rfl rfl
    repeat exact sd T
    refine wa_ T (g:=?_)
    cases hr
    refine ⟨.inr rfl,_,(ry T),?_⟩
    exact wr [] rfl .nil
  rfl

end Go.Rex

namespace Go.Rex
open Go.Proofs
open Go Go.Rex Go.RowKit
set_option maxRecDepth 100000
set_option maxHeartbeats 200000
def y17:=an @ag121 <| an @cs121 <| an @ok121 <| an @so182 <| an @wi64_0a1 <| @wi64_1a1
theorem array_firstError_ed22_spec {v1 : Int} {v2 : Int} {v3 : (List (Int × Int × Int × Int × Int))} {v4 : Bool} {v5 : Int} {v6 : Int} (hr : array_firstError_ed22 v1 v2 v3 v4 v5 = some (v6)) : Spec (lim Tryz.prog) 63 [.list 1 [[.func 69 [.agg [.v (.int .i64 v1),.v (.int .i64 v2),.list 5 (v3.map e_iiiii)]] []],[.func 126 [] [.fptr true [.v (.bool v4)] 0,.fptr true [.v (.int .i64 v5)] 0]]]] ⟨[.v (.int .i64 v6)],[]⟩:=by
  unfold array_firstError_ed22 at hr
  have T:=an y17 <| @e_iiiii.eq_1
  apply Spec.fn Tryz.func63 rfl
  focus (simp [Tryz.f63]<;>exact rfl)
  focus
    refine wc_ T (g:=?_)
    refine TX.unroll ?_
    repeat (first|(with_reducible first|refine mv ?_|refine TO.nil ?_)|((with_reducible first|apply TO.bin|apply TO.ia|apply TO.ld|apply TO.asg|apply TO.mv);(repeat (focus (show _ = _;first|exact k1 rfl|exact k2 rfl|(simp only [zz,y17,e_iiiii,Nat.reduceAdd,Nat.reduceMul,Nat.reduceLeDiff,Nat.reduceEqDiff,tindexAddr,z5,Int.reduceToNat,Int.reduceLE,Int.reduceLT,Int.cast_ofNat_Int,tload,rowOf,partT,List.getElem?_map]<;>exact rfl)|exact rfl)));(with_reducible apply TO.here))|((with_reducible apply TX.region);(focus (simp only [zl]<;>exact rfl));(focus rfl);(try dsimp only))|((with_reducible apply TX.cond_true);(focus rfl);(focus (first|rfl|(simp only [z1,zn];done))))|((with_reducible apply TX.cond_false);(focus rfl);(focus (first|rfl|(simp only [z1,zn];done))))|fail)
    obtain ⟨v7,h1,hr⟩:=bs hr
    apply TO.cal (wn T) rfl goFn69 (array_rig_check_spec h1) rfl rfl rfl
    repeat exact sd T
    refine wa_ T (g:=?_)
    rcases ifs hr with ⟨h2,hr⟩|⟨h2,hr⟩
    · have T:=an h2 T
      refine wa_ T (g:=?_)
      cases hr
      refine ⟨.inr rfl,_,(ry T),?_⟩
      exact wk_ T [] rfl .nil
    · have T:=an h2 T
      refine wa_ T (g:=?_)
      refine TX.unroll ?_
      repeat (first|(with_reducible first|refine mv ?_|refine TO.nil ?_)|((with_reducible first|apply TO.bin|apply TO.ia|apply TO.ld|apply TO.asg|apply TO.mv);(repeat (focus (show _ = _;first|exact k1 rfl|exact k2 rfl|(simp only [zz,y17,e_iiiii,Nat.reduceAdd,Nat.reduceMul,Nat.reduceLeDiff,Nat.reduceEqDiff,tindexAddr,z5,Int.reduceToNat,Int.reduceLE,Int.reduceLT,Int.cast_ofNat_Int,tload,rowOf,partT,List.getElem?_map,h2]<;>exact rfl)|exact rfl)));(with_reducible apply TO.here))|((with_reducible apply TX.region);(focus (simp only [zl]<;>exact rfl));(focus rfl);(try dsimp only))|((with_reducible apply TX.cond_true);(focus rfl);(focus (first|rfl|(simp only [z1,zn,h2];done))))|((with_reducible apply TX.cond_false);(focus rfl);(focus (first|rfl|(simp only [z1,zn,h2];done))))|fail)
      obtain ⟨v8,h3,hr⟩:=bs hr
      apply TO.cal (wn T) rfl goFn126 (array_refuse_c1_11f9_spec h3) rfl rfl rfl
      repeat exact sd T
      refine wa_ T (g:=?_)
      rcases ifs hr with ⟨h4,hr⟩|⟨h4,hr⟩
      · have T:=an h4 T
        refine wa_ T (g:=?_)
        cases hr
        refine ⟨.inr rfl,_,(ry T),?_⟩
        exact wk_ T [] rfl .nil
      · have T:=an h4 T
        refine wa_ T (g:=?_)
        refine TX.unroll ?_
        refine wa_ T (g:=?_)
        cases hr
        refine ⟨.inr rfl,_,(ry T),?_⟩
        exact wk_ T [] rfl .nil
  rfl

end Go.Rex

namespace Go.Rex
open Go.Proofs
open Go Go.Rex Go.RowKit
set_option maxRecDepth 100000
set_option maxHeartbeats 200000
def y18:=an @by40 <| an @cs40 <| an @ni22 <| an @so22 <| @zc40
theorem slices_Clone_api_ArraySpeaker_api_ArraySpeaker_spec {v1 : (List (Int × Int × Int × Int × Int))} {v2 : (List (Int × Int × Int × Int × Int))} (hr : slices_Clone_api_ArraySpeaker_api_ArraySpeaker v1 = some (v2)) : Spec (lim Tryz.prog) 127 [.list 5 (v1.map e_iiiii)] ⟨[.lsl 0 0 v2.length],[.rows 5 (v2.map e_iiiii)]⟩:=by
  unfold slices_Clone_api_ArraySpeaker_api_ArraySpeaker at hr
  have T:=an y18 <| @e_iiiii.eq_1
  apply Spec.fn Tryz.func127 rfl
  focus (simp [Tryz.f127]<;>exact rfl)
  focus
    refine wa_ T (g:=?_)
    refine TO.nq (wn T) (.inl rfl) rfl rfl so22 ?_ ?_
    · intro h1
      replace hr:=nilq_l hr h1
      show TO _ _ _ _ ⟨[.list 5 (v1.map e_iiiii),.junk,.v (.slice none 0 0),.list 5 (v1.map e_iiiii),.v (.bool true),.junk,.junk,.junk],[]⟩ _
      refine wa_ T (g:=?_)
      cases hr
      refine ⟨.inr rfl,_,(ry T),?_⟩
      exact wr [none] rfl (.virt .nil)
    · replace hr:=nilq_r hr
      show TO _ _ _ _ ⟨[.list 5 (v1.map e_iiiii),.junk,.v (.slice none 0 0),.list 5 (v1.map e_iiiii),.v (.bool false),.junk,.junk,.junk],[]⟩ _
      refine wa_ T (g:=?_)
      apply TO.bl e_iiiii ([] : List (Int × Int × Int × Int × Int)) (wn T) rfl (by simp only [zz,y18,e_iiiii,Nat.reduceAdd,Nat.reduceMul,Nat.reduceLeDiff,Nat.reduceEqDiff,tslice,tparts];exact rfl) rfl rfl
      repeat exact sd T
      refine wa_ T (g:=?_)
      obtain ⟨v3,h2,hr⟩:=bs hr
      apply TO.ap (f:=e_iiiii) (xs:=([] : List (Int × Int × Int × Int × Int))) (ys:=v1) (wn T) rfl rfl (by first|rfl|simp only [List.length_set]) rfl rfl so22 ni22 zc40 rfl (by rw [by40];exact h2) (fun _=>⟨rfl,rfl,rfl⟩)
      repeat exact sd T
      refine wa_ T (g:=?_)
      cases hr
      refine ⟨.inr rfl,_,(ry T),?_⟩
      exact wr [some 0] rfl (.rows .nil rfl rfl)
  rfl

end Go.Rex

namespace Go.Rex
open Go.Proofs
open Go Go.Rex Go.RowKit
set_option maxRecDepth 100000
set_option maxHeartbeats 200000
def y19:=an @ag22 <| an @ag24 <| an @cs22 <| an @cs24 <| an @fd118_0 <| an @fd24_2 <| an @ok22 <| an @ok24 <| @zc24
theorem array_rig_copied_spec {v1 : Int} {v2 : Int} {v3 : (List (Int × Int × Int × Int × Int))} {v4 : Int} {v5 : Int} {v6 : (List (Int × Int × Int × Int × Int))} (hr : array_rig_copied v1 v2 v3 = some (v4,v5,v6)) : Spec (lim Tryz.prog) 71 [.agg [.v (.int .i64 v1),.v (.int .i64 v2),.list 5 (v3.map e_iiiii)]] ⟨[.agg [.v (.int .i64 v4),.v (.int .i64 v5),.lsl 0 0 v6.length]],[.rows 5 (v6.map e_iiiii)]⟩:=by
  unfold array_rig_copied at hr
  have T:=an y19 <| @e_iiiii.eq_1
  apply Spec.fn Tryz.func71 rfl
  focus (simp [Tryz.f71]<;>exact rfl)
  focus
    refine wB T (g:=?_)
    obtain ⟨v7,h1,hr⟩:=bs hr
    apply TO.cal (wn T) rfl goFn127 (slices_Clone_api_ArraySpeaker_api_ArraySpeaker_spec h1) rfl rfl rfl
    repeat exact sd T
    refine wA T (g:=?_)
    cases hr
    refine ⟨.inr rfl,_,(ry T),?_⟩
    exact wr [some 2] rfl (.rows .nil rfl rfl)
  rfl

end Go.Rex

namespace Go.Rex
open Go.Proofs
open Go Go.Rex Go.RowKit
set_option maxRecDepth 100000
set_option maxHeartbeats 1000000
def y20:=an @ag118 <| an @ag22 <| an @ag24 <| an @cs118 <| an @cs121 <| an @cs24 <| an @cs3 <| an @cs40 <| an @fd118_0 <| an @fd24_2 <| an @fd40_1 <| an @ok118 <| an @ok24 <| an @ok3 <| an @ok40 <| an @so182 <| an @so22 <| an @st118 <| an @st24 <| an @zc118 <| an @zc121 <| @zc24
theorem array_Muted_spec {v1 : Int} {v2 : Int} {v3 : (List (Int × Int × Int × Int × Int))} {v4 : Int} {v5 : Int} {v6 : Int} {v7 : (List (Int × Int × Int × Int × Int))} {v8 : Int} (hr : array_Muted v1 v2 v3 v4 = some (v5,v6,v7,v8)) : Spec (lim Tryz.prog) 15 [.agg [.v (.int .i64 v1),.v (.int .i64 v2),.list 5 (v3.map e_iiiii)],.v (.int .i64 v4)] ⟨[.tuple [.agg [.v (.int .i64 v5),.v (.int .i64 v6),.lsl 0 0 v7.length],.v (.int .i64 v8)]],[.rows 5 (v7.map e_iiiii)]⟩:=by
  unfold array_Muted at hr
  have T:=an y20 <| @e_iiiii.eq_1
  apply Spec.fn Tryz.func15 rfl
  focus (simp [Tryz.f15]<;>exact rfl)
  focus
    refine wB T (g:=?_)
    rcases ifs hr with ⟨h1,hr⟩|⟨h1,hr⟩
    · have T:=an h1 T
      refine wC T (g:=?_)
      apply TD.pop1 (wn T) (pop_not rfl)
      repeat exact sd T
      refine wa_ T (g:=?_)
      obtain ⟨⟨v9,v10⟩,h2,hr⟩:=bs hr
      try dsimp only at hr
      apply TD.cal (wn T) rfl goFn70 (array_refuse_spec h2) rfl rfl rfl
      repeat exact sd T
      refine we_ T (g:=?_)
      obtain ⟨v11,h3,hr⟩:=bs hr
      apply TD.cal (wn T) rfl goFn63 (array_firstError_ed22_spec h3) rfl rfl rfl
      repeat exact sd T
      refine wa_ T (g:=?_)
      rcases ifs hr with ⟨h4,hr⟩|⟨h4,hr⟩
      · have T:=an h4 T
        refine wa_ T (g:=?_)
        cases hr
        refine ⟨.inr rfl,_,(ry T),?_⟩
        exact wk_ T [none] rfl (.virt .nil)
      · have T:=an h4 T
        refine wA T (g:=?_)
        obtain ⟨⟨v12,v13,v14⟩,h5,hr⟩:=bs hr
        try dsimp only at hr
        apply TO.cal (wn T) rfl goFn71 (array_rig_copied_spec h5) rfl rfl rfl
        repeat exact sd T
        refine wA T (g:=?_)
        obtain ⟨⟨v15,v16,v17,v18,v19⟩,h6,hr⟩:=bs hr
        try dsimp only at hr
        have h6m:=tidx_map (f:=e_iiiii) h6
        have h6l:=getI_lt h6
        try simp only [List.length_set] at h6l
        have h6a:=getI_at h6
        have T:=an h6m T
        have T:=an h6l T
        have T:=an h6a T
        refine wa_ T (g:=?_)
        apply TO.sr e_iiiii v14 (v15,v16,v17,v18,v19) (v15,v16,v17,0,v19) h6a (wn T) rfl rfl rfl rfl rfl ok3 (by rw [cs3];rfl) rfl rfl rfl rfl
        repeat exact sd T
        refine wA T (g:=?_)
        cases hr
        refine ⟨.inr rfl,_,(ry T),?_⟩
        exact wk_ T [some 2] rfl (.rows .nil rfl rfl)
    · have T:=an h1 T
      refine wA T (g:=?_)
      apply TD.pop1 (wn T) (pop_not rfl)
      repeat exact sd T
      refine wa_ T (g:=?_)
      obtain ⟨⟨v20,v21⟩,h7,hr⟩:=bs hr
      try dsimp only at hr
      apply TD.cal (wn T) rfl goFn70 (array_refuse_spec h7) rfl rfl rfl
      repeat exact sd T
      refine we_ T (g:=?_)
      obtain ⟨v22,h8,hr⟩:=bs hr
      apply TD.cal (wn T) rfl goFn63 (array_firstError_ed22_spec h8) rfl rfl rfl
      repeat exact sd T
      refine wa_ T (g:=?_)
      rcases ifs hr with ⟨h9,hr⟩|⟨h9,hr⟩
      · have T:=an h9 T
        refine wa_ T (g:=?_)
        cases hr
        refine ⟨.inr rfl,_,(ry T),?_⟩
        exact wk_ T [none] rfl (.virt .nil)
      · have T:=an h9 T
        refine wA T (g:=?_)
        obtain ⟨⟨v23,v24,v25⟩,h10,hr⟩:=bs hr
        try dsimp only at hr
        apply TO.cal (wn T) rfl goFn71 (array_rig_copied_spec h10) rfl rfl rfl
        repeat exact sd T
        refine wA T (g:=?_)
        obtain ⟨⟨v26,v27,v28,v29,v30⟩,h11,hr⟩:=bs hr
        try dsimp only at hr
        have h11m:=tidx_map (f:=e_iiiii) h11
        have h11l:=getI_lt h11
        try simp only [List.length_set] at h11l
        have h11a:=getI_at h11
        have T:=an h11m T
        have T:=an h11l T
        have T:=an h11a T
        refine wa_ T (g:=?_)
        apply TO.sr e_iiiii v25 (v26,v27,v28,v29,v30) (v26,v27,v28,0,v30) h11a (wn T) rfl rfl rfl rfl rfl ok3 (by rw [cs3];rfl) rfl rfl rfl rfl
        repeat exact sd T
        refine wA T (g:=?_)
        cases hr
        refine ⟨.inr rfl,_,(ry T),?_⟩
        exact wk_ T [some 2] rfl (.rows .nil rfl rfl)
  rfl

end Go.Rex

namespace Go.Rex
open Go.Proofs
open Go Go.Rex Go.RowKit
set_option maxRecDepth 100000
set_option maxHeartbeats 200000
def y21:=an @ag3 <| an @ag43 <| an @cs43 <| an @fd24_0 <| an @fd24_1 <| an @ok43 <| an @st43 <| @zc43
theorem ref07_Sound_spec {v1 : Int} {v2 : Int} {v3 : (List (Int × Int × Int × Int × Int))} {v4 : Int} {v5 : Int} (hr : ref07_Sound v1 v2 v3 = some (v4,v5)) : Spec (lim Tryz.prog) 72 [.agg [.v (.int .i64 v1),.v (.int .i64 v2),.list 5 (v3.map e_iiiii)]] ⟨[.agg [.v (.int .i64 v4),.v (.int .i64 v5)]],[]⟩:=by
  unfold ref07_Sound at hr
  have T:=an y21 <| @e_iiiii.eq_1
  apply Spec.fn Tryz.func72 rfl
  focus (simp [Tryz.f72]<;>exact rfl)
  focus
    refine wB T (g:=?_)
    cases hr
    refine ⟨.inr rfl,_,(ry T),?_⟩
    exact wr [] rfl .nil
  rfl

end Go.Rex

namespace Go.Rex
open Go.Proofs
open Go Go.Rex Go.RowKit
set_option maxRecDepth 100000
set_option maxHeartbeats 200000
theorem base_Within_spec {v1 : Int} {v2 : Int} {v3 : Int} {v4 : Bool} (hr : base_Within v1 v2 v3 = some (v4)) : Spec (lim Tryz.prog) 17 [.v (.int .i64 v1),.v (.int .i64 v2),.v (.int .i64 v3)] ⟨[.v (.bool v4)],[]⟩:=by
  unfold base_Within at hr
  have T:=trivial
  apply Spec.fn Tryz.func17 rfl
  focus (simp [Tryz.f17]<;>exact rfl)
  focus
    refine wa_ T (g:=?_)
    rcases ifs hr with ⟨h1,hr⟩|⟨h1,hr⟩
    · have T:=an h1 T
      refine wa_ T (g:=?_)
      cases hr
      refine ⟨.inr rfl,_,(ry T),?_⟩
      exact wk_ T [] rfl .nil
    · have T:=an h1 T
      refine wa_ T (g:=?_)
      cases hr
      refine ⟨.inr rfl,_,(ry T),?_⟩
      exact wk_ T [] rfl .nil
  rfl

end Go.Rex

namespace Go.Rex
open Go.Proofs
open Go Go.Rex Go.RowKit
set_option maxRecDepth 100000
set_option maxHeartbeats 200000
def y22:=an @ag3 <| an @fd43_0 <| @fd43_1
theorem ref07_SoundErr_spec {v1 : Int} {v2 : Int} {v3 : Int} (hr : ref07_SoundErr v1 v2 = some (v3)) : Spec (lim Tryz.prog) 25 [.agg [.v (.int .i64 v1),.v (.int .i64 v2)]] ⟨[.v (.int .i64 v3)],[]⟩:=by
  unfold ref07_SoundErr at hr
  have T:=y22
  apply Spec.fn Tryz.func25 rfl
  focus (simp [Tryz.f25]<;>exact rfl)
  focus
    refine wB T (g:=?_)
    obtain ⟨v4,h1,hr⟩:=bs hr
    apply TO.cal (wn T) rfl goFn17 (base_Within_spec h1) rfl rfl rfl
    repeat exact sd T
    refine wa_ T (g:=?_)
    apply TO.pop1 (wn T) (pop_not rfl)
    repeat exact sd T
    refine wa_ T (g:=?_)
    rcases ifs hr with ⟨h2,hr⟩|⟨h2,hr⟩
    · have T:=an h2 T
      refine wA T (g:=?_)
      obtain ⟨v5,h3,hr⟩:=bs hr
      apply TO.cal (wn T) rfl goFn17 (base_Within_spec h3) rfl rfl rfl
      repeat exact sd T
      refine wa_ T (g:=?_)
      apply TO.pop1 (wn T) (pop_not rfl)
      repeat exact sd T
      refine wa_ T (g:=?_)
      rcases ifs hr with ⟨h4,hr⟩|⟨h4,hr⟩
      · have T:=an h4 T
        refine wa_ T (g:=?_)
        cases hr
        refine ⟨.inr rfl,_,(ry T),?_⟩
        exact wk_ T [] rfl .nil
      · have T:=an h4 T
        refine wa_ T (g:=?_)
        cases hr
        refine ⟨.inr rfl,_,(ry T),?_⟩
        exact wk_ T [] rfl .nil
    · have T:=an h2 T
      refine wa_ T (g:=?_)
      cases hr
      refine ⟨.inr rfl,_,(ry T),?_⟩
      exact wk_ T [] rfl .nil
  rfl

end Go.Rex

namespace Go.Rex
open Go.Proofs
open Go Go.Rex Go.RowKit
set_option maxRecDepth 100000
set_option maxHeartbeats 200000
def y23:=an @ag3 <| an @fd38_0 <| an @fd38_1 <| @fd38_2
theorem ref07_PlaceErr_spec {v1 : Int} {v2 : Int} {v3 : Int} {v4 : Int} (hr : ref07_PlaceErr v1 v2 v3 = some (v4)) : Spec (lim Tryz.prog) 22 [.agg [.v (.int .i64 v1),.v (.int .i64 v2),.v (.int .i64 v3)]] ⟨[.v (.int .i64 v4)],[]⟩:=by
  unfold ref07_PlaceErr at hr
  have T:=y23
  apply Spec.fn Tryz.func22 rfl
  focus (simp [Tryz.f22]<;>exact rfl)
  focus
    refine wB T (g:=?_)
    obtain ⟨v5,h1,hr⟩:=bs hr
    apply TO.cal (wn T) rfl goFn17 (base_Within_spec h1) rfl rfl rfl
    repeat exact sd T
    refine wa_ T (g:=?_)
    apply TO.pop1 (wn T) (pop_not rfl)
    repeat exact sd T
    refine wa_ T (g:=?_)
    rcases ifs hr with ⟨h2,hr⟩|⟨h2,hr⟩
    · have T:=an h2 T
      refine wA T (g:=?_)
      obtain ⟨v6,h3,hr⟩:=bs hr
      apply TO.cal (wn T) rfl goFn17 (base_Within_spec h3) rfl rfl rfl
      repeat exact sd T
      refine wa_ T (g:=?_)
      apply TO.pop1 (wn T) (pop_not rfl)
      repeat exact sd T
      refine wa_ T (g:=?_)
      rcases ifs hr with ⟨h4,hr⟩|⟨h4,hr⟩
      · have T:=an h4 T
        refine wA T (g:=?_)
        obtain ⟨v7,h5,hr⟩:=bs hr
        apply TO.cal (wn T) rfl goFn17 (base_Within_spec h5) rfl rfl rfl
        repeat exact sd T
        refine wa_ T (g:=?_)
        apply TO.pop1 (wn T) (pop_not rfl)
        repeat exact sd T
        refine wa_ T (g:=?_)
        rcases ifs hr with ⟨h6,hr⟩|⟨h6,hr⟩
        · have T:=an h6 T
          refine wa_ T (g:=?_)
          cases hr
          refine ⟨.inr rfl,_,(ry T),?_⟩
          exact wk_ T [] rfl .nil
        · have T:=an h6 T
          refine wa_ T (g:=?_)
          cases hr
          refine ⟨.inr rfl,_,(ry T),?_⟩
          exact wk_ T [] rfl .nil
      · have T:=an h4 T
        refine wa_ T (g:=?_)
        cases hr
        refine ⟨.inr rfl,_,(ry T),?_⟩
        exact wk_ T [] rfl .nil
    · have T:=an h2 T
      refine wa_ T (g:=?_)
      cases hr
      refine ⟨.inr rfl,_,(ry T),?_⟩
      exact wk_ T [] rfl .nil
  rfl

end Go.Rex

namespace Go.Rex
open Go.Proofs
open Go Go.Rex Go.RowKit
set_option maxRecDepth 100000
set_option maxHeartbeats 200000
theorem ref07_GainErr_spec {v1 : Int} {v2 : Int} {v3 : Int} (hr : ref07_GainErr v1 v2 = some (v3)) : Spec (lim Tryz.prog) 73 [.v (.int .i64 v1),.v (.int .i64 v2)] ⟨[.v (.int .i64 v3)],[]⟩:=by
  unfold ref07_GainErr at hr
  have T:=trivial
  apply Spec.fn Tryz.func73 rfl
  focus (simp [Tryz.f73]<;>exact rfl)
  focus
    refine wa_ T (g:=?_)
    obtain ⟨v4,h1,hr⟩:=bs hr
    apply TO.cal (wn T) rfl goFn17 (base_Within_spec h1) rfl rfl rfl
    repeat exact sd T
    refine wa_ T (g:=?_)
    apply TO.pop1 (wn T) (pop_not rfl)
    repeat exact sd T
    refine wa_ T (g:=?_)
    rcases ifs hr with ⟨h2,hr⟩|⟨h2,hr⟩
    · have T:=an h2 T
      refine wa_ T (g:=?_)
      obtain ⟨v5,h3,hr⟩:=bs hr
      apply TO.cal (wn T) rfl goFn17 (base_Within_spec h3) rfl rfl rfl
      repeat exact sd T
      refine wa_ T (g:=?_)
      apply TO.pop1 (wn T) (pop_not rfl)
      repeat exact sd T
      refine wa_ T (g:=?_)
      rcases ifs hr with ⟨h4,hr⟩|⟨h4,hr⟩
      · have T:=an h4 T
        refine wa_ T (g:=?_)
        cases hr
        refine ⟨.inr rfl,_,(ry T),?_⟩
        exact wk_ T [] rfl .nil
      · have T:=an h4 T
        refine wa_ T (g:=?_)
        cases hr
        refine ⟨.inr rfl,_,(ry T),?_⟩
        exact wk_ T [] rfl .nil
    · have T:=an h2 T
      refine wa_ T (g:=?_)
      cases hr
      refine ⟨.inr rfl,_,(ry T),?_⟩
      exact wk_ T [] rfl .nil
  rfl

end Go.Rex

namespace Go.Rex
open Go.Proofs
open Go Go.Rex Go.RowKit
set_option maxRecDepth 100000
set_option maxHeartbeats 1000000
def y24:=an @ag22 <| an @ag24 <| an @ag3 <| an @ag38 <| an @ag40 <| an @cs24 <| an @cs38 <| an @cs40 <| an @fd24_2 <| an @fd40_0 <| an @fd40_1 <| an @fd40_2 <| an @ok24 <| an @ok38 <| an @ok40 <| an @so22 <| an @zc40 <| @wi64_0a1
theorem ref07_CheckArray_spec {v1 : Int} {v2 : Int} {v3 : (List (Int × Int × Int × Int × Int))} {v4 : Int} {v5 : Int} (hr : ref07_CheckArray v1 v2 v3 = some (v4,v5)) : Spec (lim Tryz.prog) 16 [.agg [.v (.int .i64 v1),.v (.int .i64 v2),.list 5 (v3.map e_iiiii)]] ⟨[.tuple [.v (.int .i64 v4),.v (.int .i64 v5)]],[]⟩:=by
  unfold ref07_CheckArray at hr
  have T:=an y24 <| @e_iiiii.eq_1
  apply Spec.fn Tryz.func16 rfl
  focus (simp [Tryz.f16]<;>exact rfl)
  focus
    refine wB T (g:=?_)
    obtain ⟨⟨v6,v7⟩,h1,hr⟩:=bs hr
    try dsimp only at hr
    apply TO.cal (wn T) rfl goFn72 (ref07_Sound_spec h1) rfl rfl rfl
    repeat exact sd T
    refine wa_ T (g:=?_)
    obtain ⟨v8,h2,hr⟩:=bs hr
    apply TO.cal (wn T) rfl goFn25 (ref07_SoundErr_spec h2) rfl rfl rfl
    repeat exact sd T
    refine wa_ T (g:=?_)
    rcases ifs hr with ⟨h3,hr⟩|⟨h3,hr⟩
    · have T:=an h3 T
      refine wa_ T (g:=?_)
      cases hr
      refine ⟨.inr rfl,_,(ry T),?_⟩
      exact wk_ T [] rfl .nil
    · have T:=an h3 T
      refine wC T (g:=?_)
      rcases ifs hr with ⟨h4,hr⟩|⟨h4,hr⟩
      · have T:=an h4 T
        refine wa_ T (g:=?_)
        cases hr
        refine ⟨.inr rfl,_,(ry T),?_⟩
        exact wk_ T [] rfl .nil
      · have T:=an h4 T
        refine wC T (g:=?_)
        rcases ifs hr with ⟨h5,hr⟩|⟨h5,hr⟩
        · have T:=an h5 T
          refine wa_ T (g:=?_)
          cases hr
          refine ⟨.inr rfl,_,(ry T),?_⟩
          exact wk_ T [] rfl .nil
        · have T:=an h5 T
          refine wa_ T (g:=?_)
          obtain ⟨v25,h18,hr⟩:=bs hr
          refine TX.loopE (step:=ref07_CheckArray_l1 v3) (x:=0) h18 (fun v9=>⟨.junk :: .fptr true [.v (.int .i64 v1),.v (.int .i64 v2),.list 5 (v3.map e_iiiii)] 0 :: .junk :: .junk :: .junk :: .v (.int .i64 v9) :: .junk :: .junk :: .junk :: .junk :: .junk :: .junk :: .junk :: .junk :: .junk :: .junk :: .junk :: .junk :: .junk :: .junk :: .junk :: .junk :: .junk :: .junk :: .junk :: .junk :: .junk :: .junk :: .junk :: .junk :: .junk :: .junk :: .junk :: .junk :: .junk :: .junk :: .junk :: .junk :: .junk :: .junk :: .junk :: .junk :: .junk :: .junk :: .junk :: .junk :: [],[]⟩) (fun e=>match e with|(.inl v17)=>(.ret,⟨.junk :: .junk :: .v (.int .i64 v17) :: .v (.int .i64 2) :: .junk :: .junk :: .junk :: .junk :: .junk :: .junk :: .junk :: .junk :: .junk :: .junk :: .junk :: .junk :: .junk :: .junk :: .junk :: .junk :: .junk :: .junk :: .junk :: .junk :: .junk :: .junk :: .junk :: .junk :: .junk :: .junk :: .junk :: .junk :: .junk :: .junk :: .junk :: .junk :: .junk :: .junk :: .junk :: .junk :: .junk :: .junk :: .junk :: .junk :: .junk :: .junk :: [],[]⟩)|(.inr _)=>(.exit 0,⟨.junk :: .junk :: .junk :: .junk :: .junk :: .junk :: .junk :: .junk :: .junk :: .junk :: .junk :: .junk :: .junk :: .junk :: .junk :: .junk :: .junk :: .junk :: .junk :: .junk :: .junk :: .junk :: .junk :: .junk :: .junk :: .junk :: .junk :: .junk :: .junk :: .junk :: .junk :: .junk :: .junk :: .junk :: .junk :: .junk :: .junk :: .junk :: .junk :: .junk :: .junk :: .junk :: .junk :: .junk :: .junk :: .junk :: [],[]⟩)) ?_ ?_ ?_ ?_
          · rintro v9 v0 hr
            dsimp only [ref07_CheckArray_l1] at hr
            try dsimp only
            refine wC T (g:=?_)
            rcases ifs hr with ⟨h12,hr⟩|⟨h12,hr⟩
            · have T:=an h12 T
              refine wA T (g:=?_)
              obtain ⟨⟨v18,v19,v20,v21,v22⟩,h13,hr⟩:=bs hr
              try dsimp only at hr
              have T:=an (gx e_iiiii h13) T
              refine wA T (g:=?_)
              obtain ⟨v23,h14,hr⟩:=bs hr
              apply TO.cal (wn T) rfl goFn22 (ref07_PlaceErr_spec h14) rfl rfl rfl
              repeat exact sd T
              refine wa_ T (g:=?_)
              rcases ifs hr with ⟨h15,hr⟩|⟨h15,hr⟩
              · have T:=an h15 T
                refine wa_ T (g:=?_)
                cases hr
                refine ⟨rfl,?_⟩
                exact wk_ T [] rfl .nil
              · have T:=an h15 T
                refine wA T (g:=?_)
                obtain ⟨v24,h16,hr⟩:=bs hr
                apply TO.cal (wn T) rfl goFn73 (ref07_GainErr_spec h16) rfl rfl rfl
                repeat exact sd T
                refine wa_ T (g:=?_)
                rcases ifs hr with ⟨h17,hr⟩|⟨h17,hr⟩
                · have T:=an h17 T
                  refine wa_ T (g:=?_)
                  cases hr
                  refine ⟨rfl,?_⟩
                  exact wk_ T [] rfl .nil
                · have T:=an h17 T
                  refine wa_ T (g:=?_)
                  cases hr
                  refine ⟨rfl,?_⟩
                  exact wk_ T [] rfl .nil
            · have T:=an h12 T
              refine wa_ T (g:=?_)
              cases hr
              refine ⟨rfl,?_⟩
              exact wk_ T [] rfl .nil
          · intro e h;rcases e with _|e<;>cases h
          · try dsimp only
            rcases v25 with v26|_
            · try dsimp only at hr
              try dsimp only
              refine wa_ T (g:=?_)
              cases hr
              refine ⟨.inr rfl,_,(ry T),?_⟩
              exact wk_ T [] rfl .nil
            · try dsimp only at hr
              try dsimp only
              refine wa_ T (g:=?_)
              cases hr
              refine ⟨.inr rfl,_,(ry T),?_⟩
              exact wk_ T [] rfl .nil
          · try dsimp only
            exact wk_ T [] rfl .nil
  rfl

end Go.Rex

namespace Go.Rex
open Go.Proofs
open Go Go.Rex Go.RowKit
set_option maxRecDepth 100000
set_option maxHeartbeats 200000
def y25:=an @ag22 <| an @ag3 <| an @ag40 <| an @cs40 <| an @fd24_0 <| an @fd24_1 <| an @fd24_2 <| an @ok40 <| @so22
theorem ref07_Same_1134_spec {v1 : Int} {v2 : Int} {v3 : (List (Int × Int × Int × Int × Int))} {v4 : Int} {v5 : Int} {v6 : Bool} (hr : ref07_Same_1134 v1 v2 v3 v4 v5 = some (v6)) : Spec (lim Tryz.prog) 18 [.agg [.v (.int .i64 v1),.v (.int .i64 v2),.list 5 (v3.map e_iiiii)],.agg [.v (.int .i64 v4),.v (.int .i64 v5),.v (.slice none 0 0)]] ⟨[.v (.bool v6)],[]⟩:=by
  unfold ref07_Same_1134 at hr
  have T:=an y25 <| @e_iiiii.eq_1
  apply Spec.fn Tryz.func18 rfl
  focus (simp [Tryz.f18]<;>exact rfl)
  focus
    refine wB T (g:=?_)
    rcases ifs hr with ⟨h1,hr⟩|⟨h1,hr⟩
    · have T:=an h1 T
      refine wa_ T (g:=?_)
      cases hr
      refine ⟨.inr rfl,_,(ry T),?_⟩
      exact wk_ T [] rfl .nil
    · have T:=an h1 T
      refine wA T (g:=?_)
      rcases ifs hr with ⟨h2,hr⟩|⟨h2,hr⟩
      · have T:=an h2 T
        refine wa_ T (g:=?_)
        cases hr
        refine ⟨.inr rfl,_,(ry T),?_⟩
        exact wk_ T [] rfl .nil
      · have T:=an h2 T
        refine wC T (g:=?_)
        apply TO.pop1 (wn T) (pop_lennil rfl (so22))
        repeat exact sd T
        refine wa_ T (g:=?_)
        rcases ifs hr with ⟨h3,hr⟩|⟨h3,hr⟩
        · have T:=an h3 T
          refine wa_ T (g:=?_)
          cases hr
          refine ⟨.inr rfl,_,(ry T),?_⟩
          exact wk_ T [] rfl .nil
        · have T:=an h3 T
          refine wa_ T (g:=?_)
          obtain ⟨_,h8,hr⟩:=bs hr
          refine TX.loopE (step:=ref07_Same_1134_l1 v3) (x:=()) h8 (fun _=>⟨.junk :: .junk :: .fptr true [.v (.int .i64 v1),.v (.int .i64 v2),.list 5 (v3.map e_iiiii)] 0 :: .fptr true [.v (.int .i64 v4),.v (.int .i64 v5),.v (.slice none 0 0)] 0 :: .junk :: .v (.int .i64 0) :: .junk :: .junk :: .junk :: .junk :: .junk :: .junk :: .junk :: .junk :: .junk :: .junk :: .junk :: .junk :: .junk :: .junk :: .junk :: .junk :: .junk :: .junk :: .junk :: .junk :: .junk :: .junk :: .junk :: .junk :: .junk :: .junk :: .junk :: .junk :: .junk :: .junk :: .junk :: .junk :: .junk :: .junk :: .junk :: .junk :: .junk :: .junk :: .junk :: [],[]⟩) (fun _=>(.exit 0,⟨.junk :: .junk :: .junk :: .junk :: .junk :: .junk :: .junk :: .junk :: .junk :: .junk :: .junk :: .junk :: .junk :: .junk :: .junk :: .junk :: .junk :: .junk :: .junk :: .junk :: .junk :: .junk :: .junk :: .junk :: .junk :: .junk :: .junk :: .junk :: .junk :: .junk :: .junk :: .junk :: .junk :: .junk :: .junk :: .junk :: .junk :: .junk :: .junk :: .junk :: .junk :: .junk :: .junk :: .junk :: .junk :: [],[]⟩)) ?_ ?_ ?_ ?_
          · rintro _ v0 hr
            dsimp only [ref07_Same_1134_l1] at hr
            try dsimp only
            refine wC T (g:=?_)
            rcases ifs hr with ⟨h6,hr⟩|⟨h6,hr⟩
            · have T:=an h6 T
              refine wA T (g:=?_)
              obtain ⟨⟨v12,v13,v14,v15,v16⟩,h7,hr⟩:=bs hr
              try dsimp only at hr
              have T:=an (gx e_iiiii h7) T
              cases hr
            · have T:=an h6 T
              refine wa_ T (g:=?_)
              cases hr
              refine ⟨rfl,?_⟩
              exact wk_ T [] rfl .nil
          · intro e h;cases h
          · try dsimp only
            refine wa_ T (g:=?_)
            cases hr
            refine ⟨.inr rfl,_,(ry T),?_⟩
            exact wk_ T [] rfl .nil
          · try dsimp only
            exact wk_ T [] rfl .nil
  rfl

end Go.Rex

namespace Go.Rex
open Go.Proofs
open Go Go.Rex Go.RowKit
set_option maxRecDepth 100000
set_option maxHeartbeats 1000000
def y26:=an @ag22 <| an @ag3 <| an @ag40 <| an @cs40 <| an @eqg40 <| an @eqs40 <| an @fd24_0 <| an @fd24_1 <| an @fd24_2 <| an @ok40 <| an @so22 <| @wi64_0a1
theorem ref07_Same_spec {v1 : Int} {v2 : Int} {v3 : (List (Int × Int × Int × Int × Int))} {v4 : Int} {v5 : Int} {v6 : (List (Int × Int × Int × Int × Int))} {v7 : Bool} (hr : ref07_Same v1 v2 v3 v4 v5 v6 = some (v7)) : Spec (lim Tryz.prog) 18 [.agg [.v (.int .i64 v1),.v (.int .i64 v2),.list 5 (v3.map e_iiiii)],.agg [.v (.int .i64 v4),.v (.int .i64 v5),.list 5 (v6.map e_iiiii)]] ⟨[.v (.bool v7)],[]⟩:=by
  unfold ref07_Same at hr
  have T:=an y26 <| @e_iiiii.eq_1
  apply Spec.fn Tryz.func18 rfl
  focus (simp [Tryz.f18]<;>exact rfl)
  focus
    refine wB T (g:=?_)
    rcases ifs hr with ⟨h1,hr⟩|⟨h1,hr⟩
    · have T:=an h1 T
      refine wa_ T (g:=?_)
      cases hr
      refine ⟨.inr rfl,_,(ry T),?_⟩
      exact wk_ T [] rfl .nil
    · have T:=an h1 T
      refine wA T (g:=?_)
      rcases ifs hr with ⟨h2,hr⟩|⟨h2,hr⟩
      · have T:=an h2 T
        refine wa_ T (g:=?_)
        cases hr
        refine ⟨.inr rfl,_,(ry T),?_⟩
        exact wk_ T [] rfl .nil
      · have T:=an h2 T
        refine wC T (g:=?_)
        rcases ifs hr with ⟨h3,hr⟩|⟨h3,hr⟩
        · have T:=an h3 T
          refine wa_ T (g:=?_)
          cases hr
          refine ⟨.inr rfl,_,(ry T),?_⟩
          exact wk_ T [] rfl .nil
        · have T:=an h3 T
          refine wa_ T (g:=?_)
          obtain ⟨v29,h12,hr⟩:=bs hr
          refine TX.loopE (step:=ref07_Same_l1 v3 v6) (x:=0) h12 (fun v8=>⟨.junk :: .junk :: .fptr true [.v (.int .i64 v1),.v (.int .i64 v2),.list 5 (v3.map e_iiiii)] 0 :: .fptr true [.v (.int .i64 v4),.v (.int .i64 v5),.list 5 (v6.map e_iiiii)] 0 :: .junk :: .v (.int .i64 v8) :: .junk :: .junk :: .junk :: .junk :: .junk :: .junk :: .junk :: .junk :: .junk :: .junk :: .junk :: .junk :: .junk :: .junk :: .junk :: .junk :: .junk :: .junk :: .junk :: .junk :: .junk :: .junk :: .junk :: .junk :: .junk :: .junk :: .junk :: .junk :: .junk :: .junk :: .junk :: .junk :: .junk :: .junk :: .junk :: .junk :: .junk :: .junk :: .junk :: [],[]⟩) (fun e=>match e with|(.inl _)=>(.ret,⟨.junk :: .junk :: .junk :: .junk :: .v (.bool false) :: .junk :: .junk :: .junk :: .junk :: .junk :: .junk :: .junk :: .junk :: .junk :: .junk :: .junk :: .junk :: .junk :: .junk :: .junk :: .junk :: .junk :: .junk :: .junk :: .junk :: .junk :: .junk :: .junk :: .junk :: .junk :: .junk :: .junk :: .junk :: .junk :: .junk :: .junk :: .junk :: .junk :: .junk :: .junk :: .junk :: .junk :: .junk :: .junk :: .junk :: [],[]⟩)|(.inr _)=>(.exit 0,⟨.junk :: .junk :: .junk :: .junk :: .junk :: .junk :: .junk :: .junk :: .junk :: .junk :: .junk :: .junk :: .junk :: .junk :: .junk :: .junk :: .junk :: .junk :: .junk :: .junk :: .junk :: .junk :: .junk :: .junk :: .junk :: .junk :: .junk :: .junk :: .junk :: .junk :: .junk :: .junk :: .junk :: .junk :: .junk :: .junk :: .junk :: .junk :: .junk :: .junk :: .junk :: .junk :: .junk :: .junk :: .junk :: [],[]⟩)) ?_ ?_ ?_ ?_
          · rintro v8 v0 hr
            dsimp only [ref07_Same_l1] at hr
            try dsimp only
            refine wC T (g:=?_)
            rcases ifs hr with ⟨h8,hr⟩|⟨h8,hr⟩
            · have T:=an h8 T
              refine wA T (g:=?_)
              obtain ⟨⟨v19,v20,v21,v22,v23⟩,h9,hr⟩:=bs hr
              try dsimp only at hr
              have T:=an (gx e_iiiii h9) T
              refine wA T (g:=?_)
              obtain ⟨⟨v24,v25,v26,v27,v28⟩,h10,hr⟩:=bs hr
              try dsimp only at hr
              have T:=an (gx e_iiiii h10) T
              refine wA T (g:=?_)
              apply TD.pop1 (wn T) (pop_eqs2 (X:=⟨[.int .i64 (v19),.int .i64 (v20),.int .i64 (v21),.int .i64 (v22),.int .i64 (v23)]⟩) (Y:=⟨[.int .i64 (v24),.int .i64 (v25),.int .i64 (v26),.int .i64 (v27),.int .i64 (v28)]⟩) rfl rfl rfl rfl rfl rfl rfl eqg40 eqs40 rfl)
              repeat exact sd T
              refine wa_ T (g:=?_)
              rcases ifs hr with ⟨h11,hr⟩|⟨h11,hr⟩
              · have T:=an h11 T
                refine wa_ T (g:=?_)
                cases hr
                refine ⟨rfl,?_⟩
                exact wk_ T [] rfl .nil
              · have T:=an h11 T
                refine wa_ T (g:=?_)
                cases hr
                refine ⟨rfl,?_⟩
                exact wk_ T [] rfl .nil
            · have T:=an h8 T
              refine wa_ T (g:=?_)
              cases hr
              refine ⟨rfl,?_⟩
              exact wk_ T [] rfl .nil
          · intro e h;rcases e with _|e<;>cases h
          · try dsimp only
            rcases v29 with _|_
            · try dsimp only at hr
              try dsimp only
              refine wa_ T (g:=?_)
              cases hr
              refine ⟨.inr rfl,_,(ry T),?_⟩
              exact wk_ T [] rfl .nil
            · try dsimp only at hr
              try dsimp only
              refine wa_ T (g:=?_)
              cases hr
              refine ⟨.inr rfl,_,(ry T),?_⟩
              exact wk_ T [] rfl .nil
          · try dsimp only
            exact wk_ T [] rfl .nil
  rfl

end Go.Rex

namespace Go.Rex
open Go.Proofs
open Go Go.Rex Go.RowKit
set_option maxRecDepth 100000

end Go.Rex

namespace Go.Rex
open Go.Proofs
open Go Go.Rex Go.RowKit
set_option maxRecDepth 100000
set_option maxHeartbeats 4000000
def y27:=an @ag22 <| an @ag24 <| an @cs24 <| an @cs3 <| an @cs40 <| an @fd24_2 <| an @fd40_1 <| an @ok24 <| an @ok3 <| an @ok40 <| an @so22 <| an @st24 <| @zc24
theorem law07_ArrayChecks_law {v1 : Int} {v2 : Int} {v3 : (List (Int × Int × Int × Int × Int))} {v4 : Int} (hr : law07_ArrayChecks v1 v2 v3 v4 = some true) {Fz : Nat → Prop} {h : List Blk} {vs : List Value} (hfz : ∀ n, Fz n → n < h.length) (hargs : VLs Fz h noL [.agg [.v (.int .i64 v1), .v (.int .i64 v2), .list 5 (v3.map e_iiiii)], .v (.int .i64 v4)] vs)
    {B lo : Nat} {D : Nat → Prop} {m : NMap} {w : World} {args' : List Value} (hrel : Rel B lo D m h w) (hlo : lo ≤ h.length) (hargs' : VRs D m vs args') : Calls Tryz.prog 3 ⟨args'⟩ w (fun e w'=>e = .returned (.bool true) ∧ Below w.heap.size w w'):=by
  unfold law07_ArrayChecks at hr
  have T:=an y27 <| @e_iiiii.eq_1
  refine law_tex follows awake_true Tryz.func3 rfl (tm0:=.agg [.v (.int .i64 v1),.v (.int .i64 v2),.list 5 (v3.map e_iiiii)] :: .v (.int .i64 v4) :: .junk :: .junk :: .junk :: .junk :: .junk :: .junk :: .junk :: .junk :: .junk :: .junk :: .junk :: .junk :: .junk :: .junk :: .junk :: .junk :: .junk :: .junk :: .junk :: .junk :: .junk :: .junk :: .junk :: .junk :: .junk :: .junk :: .junk :: .junk :: .junk :: .junk :: .junk :: .junk :: .junk :: .junk :: .junk :: .junk :: .junk :: .junk :: .junk :: .junk :: .junk :: .junk :: .junk :: .junk :: .junk :: .junk :: .junk :: .junk :: .junk :: .junk :: .junk :: .junk :: .junk :: .junk :: .junk :: .junk :: .junk :: .junk :: .junk :: .junk :: .junk :: .junk :: .junk :: .junk :: .junk :: .junk :: .junk :: .junk :: .junk :: .junk :: .junk :: .junk :: .junk :: .junk :: .junk :: .junk :: []) (by simp [Tryz.f3]<;>exact rfl) ?_ hfz hargs hrel hlo hargs'
  refine wb_ T (g:=?_)
  apply TO.cal (wn T) rfl goFn11 Spec.awake rfl rfl rfl
  repeat exact sd T
  refine wa_ T (g:=?_)
  apply TO.pop1 (wn T) (pop_not rfl)
  repeat exact sd T
  refine wA T (g:=?_)
  obtain ⟨v6,h1,hr⟩:=bs hr
  apply TO.cal (wn T) rfl goFn12 (Spec.ov (law07_few_spec h1) (by decide)) rfl rfl rfl
  repeat exact sd T
  refine wa_ T (g:=?_)
  apply TO.pop1 (wn T) (pop_not rfl)
  repeat exact sd T
  refine wa_ T (g:=?_)
  rcases ifs hr with ⟨h2,hr⟩|⟨h2,hr⟩
  · have T:=an h2 T
    refine wA T (g:=?_)
    obtain ⟨⟨v7,v8,v9⟩,h3,hr⟩:=bs hr
    try dsimp only at hr
    apply TO.cal (wn T) rfl goFn14 (Spec.ov (ref07_Copy_spec h3) (by decide)) rfl rfl rfl
    repeat exact sd T
    refine wa_ T (g:=?_)
    obtain ⟨⟨v10,v11⟩,h4,hr⟩:=bs hr
    try dsimp only at hr
    apply TO.lok (wn T) rfl goFn13 (Spec.ov (array_CheckArray_spec h4) (by decide)) (vw T) rfl rfl (by simp [clTB,cl,e_iiiii,e_i])
    repeat exact sd T
    refine wA T (g:=?_)
    obtain ⟨⟨v12,v13,v14⟩,h5,hr⟩:=bs hr
    try dsimp only at hr
    apply TO.cal (wn T) rfl goFn14 (Spec.ov (ref07_Copy_spec h5) (by decide)) rfl rfl rfl
    repeat exact sd T
    refine wa_ T (g:=?_)
    obtain ⟨⟨v15,v16,v17,v18⟩,h6,hr⟩:=bs hr
    try dsimp only at hr
    apply TO.lok (wn T) rfl goFn15 (Spec.ov (array_Muted_spec h6) (by decide)) (vw T) rfl rfl (by simp [clTB,cl,e_iiiii,e_i])
    repeat exact sd T
    refine wA T (g:=?_)
    obtain ⟨⟨v19,v20⟩,h7,hr⟩:=bs hr
    try dsimp only at hr
    apply TO.cal (wn T) rfl goFn16 (Spec.ov (ref07_CheckArray_spec h7) (by decide)) rfl rfl rfl
    repeat exact sd T
    refine wa_ T (g:=?_)
    rcases ifs hr with ⟨h8,hr⟩|⟨h8,hr⟩
    · have T:=an h8 T
      refine wa_ T (g:=?_)
      exact lv T hr
    · have T:=an h8 T
      refine wa_ T (g:=?_)
      rcases ifs hr with ⟨h9,hr⟩|⟨h9,hr⟩
      · have T:=an h9 T
        refine wa_ T (g:=?_)
        exact lv T hr
      · have T:=an h9 T
        refine wa_ T (g:=?_)
        rcases ifs hr with ⟨h10,hr⟩|⟨h10,hr⟩
        · have T:=an h10 T
          refine wC T (g:=?_)
          obtain ⟨v21,h11,hr⟩:=bs hr
          apply TO.cal (wn T) rfl goFn17 (Spec.ov (base_Within_spec h11) (by decide)) rfl rfl rfl
          repeat exact sd T
          refine wa_ T (g:=?_)
          apply TO.pop1 (wn T) (pop_not rfl)
          repeat exact sd T
          refine wa_ T (g:=?_)
          rcases ifs hr with ⟨h12,hr⟩|⟨h12,hr⟩
          · have T:=an h12 T
            refine wa_ T (g:=?_)
            rcases ifs hr with ⟨h13,hr⟩|⟨h13,hr⟩
            · have T:=an h13 T
              refine wa_ T (g:=?_)
              rcases ifs hr with ⟨h14,hr⟩|⟨h14,hr⟩
              · have T:=an h14 T
                refine wA T (g:=?_)
                obtain ⟨v22,h15,hr⟩:=bs hr
                apply TO.lok (wn T) rfl goFn18 (Spec.ov (ref07_Same_1134_spec h15) (by decide)) (vw T) rfl rfl (by simp [clTB,cl,e_iiiii,e_i])
                repeat exact sd T
                refine wa_ T (g:=?_)
                exact lv T hr
              · have T:=an h14 T
                refine wa_ T (g:=?_)
                exact lv T hr
            · have T:=an h13 T
              refine wA T (g:=?_)
              obtain ⟨⟨v23,v24,v25⟩,h16,hr⟩:=bs hr
              try dsimp only at hr
              apply TO.cal (wn T) rfl goFn14 (Spec.ov (ref07_Copy_spec h16) (by decide)) rfl rfl rfl
              repeat exact sd T
              refine wA T (g:=?_)
              obtain ⟨⟨v26,v27,v28,v29,v30⟩,h17,hr⟩:=bs hr
              try dsimp only at hr
              have h17m:=tidx_map (f:=e_iiiii) h17
              have h17l:=getI_lt h17
              try simp only [List.length_set] at h17l
              have h17a:=getI_at h17
              have T:=an h17m T
              have T:=an h17l T
              have T:=an h17a T
              refine wa_ T (g:=?_)
              apply TO.sr e_iiiii v25 (v26,v27,v28,v29,v30) (v26,v27,v28,0,v30) h17a (wn T) rfl rfl rfl rfl rfl ok3 (by rw [cs3];rfl) rfl rfl rfl rfl
              repeat exact sd T
              refine wa_ T (g:=?_)
              rcases ifs hr with ⟨h18,hr⟩|⟨h18,hr⟩
              · have T:=an h18 T
                refine wA T (g:=?_)
                obtain ⟨v31,h19,hr⟩:=bs hr
                apply TO.lok (wn T) rfl goFn18 (Spec.ov (ref07_Same_spec h19) (by decide)) (vw T) rfl rfl (by simp [clTB,cl,e_iiiii,e_i])
                repeat exact sd T
                refine wa_ T (g:=?_)
                exact lv T hr
              · have T:=an h18 T
                refine wa_ T (g:=?_)
                exact lv T hr
          · have T:=an h12 T
            refine wa_ T (g:=?_)
            rcases ifs hr with ⟨h20,hr⟩|⟨h20,hr⟩
            · have T:=an h20 T
              refine wA T (g:=?_)
              obtain ⟨v32,h21,hr⟩:=bs hr
              apply TO.lok (wn T) rfl goFn18 (Spec.ov (ref07_Same_1134_spec h21) (by decide)) (vw T) rfl rfl (by simp [clTB,cl,e_iiiii,e_i])
              repeat exact sd T
              refine wa_ T (g:=?_)
              exact lv T hr
            · have T:=an h20 T
              refine wa_ T (g:=?_)
              exact lv T hr
        · have T:=an h10 T
          refine wa_ T (g:=?_)
          rcases ifs hr with ⟨h22,hr⟩|⟨h22,hr⟩
          · have T:=an h22 T
            refine wa_ T (g:=?_)
            rcases ifs hr with ⟨h23,hr⟩|⟨h23,hr⟩
            · have T:=an h23 T
              refine wA T (g:=?_)
              obtain ⟨v33,h24,hr⟩:=bs hr
              apply TO.lok (wn T) rfl goFn18 (Spec.ov (ref07_Same_1134_spec h24) (by decide)) (vw T) rfl rfl (by simp [clTB,cl,e_iiiii,e_i])
              repeat exact sd T
              refine wa_ T (g:=?_)
              exact lv T hr
            · have T:=an h23 T
              refine wa_ T (g:=?_)
              exact lv T hr
          · have T:=an h22 T
            refine wA T (g:=?_)
            obtain ⟨⟨v34,v35,v36⟩,h25,hr⟩:=bs hr
            try dsimp only at hr
            apply TO.cal (wn T) rfl goFn14 (Spec.ov (ref07_Copy_spec h25) (by decide)) rfl rfl rfl
            repeat exact sd T
            refine wA T (g:=?_)
            obtain ⟨⟨v37,v38,v39,v40,v41⟩,h26,hr⟩:=bs hr
            try dsimp only at hr
            have h26m:=tidx_map (f:=e_iiiii) h26
            have h26l:=getI_lt h26
            try simp only [List.length_set] at h26l
            have h26a:=getI_at h26
            have T:=an h26m T
            have T:=an h26l T
            have T:=an h26a T
            refine wa_ T (g:=?_)
            apply TO.sr e_iiiii v36 (v37,v38,v39,v40,v41) (v37,v38,v39,0,v41) h26a (wn T) rfl rfl rfl rfl rfl ok3 (by rw [cs3];rfl) rfl rfl rfl rfl
            repeat exact sd T
            refine wa_ T (g:=?_)
            rcases ifs hr with ⟨h27,hr⟩|⟨h27,hr⟩
            · have T:=an h27 T
              refine wA T (g:=?_)
              obtain ⟨v42,h28,hr⟩:=bs hr
              apply TO.lok (wn T) rfl goFn18 (Spec.ov (ref07_Same_spec h28) (by decide)) (vw T) rfl rfl (by simp [clTB,cl,e_iiiii,e_i])
              repeat exact sd T
              refine wa_ T (g:=?_)
              exact lv T hr
            · have T:=an h27 T
              refine wa_ T (g:=?_)
              exact lv T hr
  · have T:=an h2 T
    refine wa_ T (g:=?_)
    exact lv T hr

end Go.Rex
