/- Proofs that the program's functions do what these plain functions say. -/
import Derived.Test.YtpjccpokiaefjaaGreatDoorGB
import Derived.Test.YtpjccpokiaefjaaGreatDoorS
import Derived.Test.YtpjccpokiaefjaaGreatDoorCZ
set_option linter.unusedSimpArgs false
set_option linter.unusedVariables false
set_option linter.defProp false
namespace Go.Rex
open Go.Proofs
open Go Go.Rex Go.RowKit
set_option maxRecDepth 100000
set_option maxHeartbeats 200000
def y1:=an @ag22 <| an @fd24_2 <| @so22
theorem law07_few_spec {v1 : Int} {v2 : Int} {v3 : (List (Int × Int × Int × Int × Int))} {v4 : Bool} (hr : law07_few v1 v2 v3 = some (v4)) : Spec (lim Tryz.prog) 12 [.agg [.v (.int .i64 v1),.v (.int .i64 v2),.list 5 (v3.map e_iiiii)]] ⟨[.v (.bool v4)],[]⟩:=by
  unfold law07_few at hr
  have T:=an y1 <| @e_iiiii.eq_1
  apply Spec.fn Tryz.func12 rfl
  focus (simp [Tryz.f12]<;>exact rfl)
  focus
    refine wD T (g:=?_)
    cases hr
    refine ⟨.inr rfl,_,(ry T),?_⟩
    exact wr [] rfl .nil
  rfl

end Go.Rex

namespace Go.Rex
open Go.Proofs
open Go Go.Rex Go.RowKit
set_option maxRecDepth 100000
set_option maxHeartbeats 200000
def y2:=an @ag22 <| an @ag24 <| an @by40 <| an @cs22 <| an @cs24 <| an @cs40 <| an @fd24_2 <| an @ni22 <| an @ok22 <| an @ok24 <| an @so22 <| an @zc24 <| @zc40
theorem ref07_Copy_spec {v1 : Int} {v2 : Int} {v3 : (List (Int × Int × Int × Int × Int))} {v4 : Int} {v5 : Int} {v6 : (List (Int × Int × Int × Int × Int))} (hr : ref07_Copy v1 v2 v3 = some (v4,v5,v6)) : Spec (lim Tryz.prog) 14 [.agg [.v (.int .i64 v1),.v (.int .i64 v2),.list 5 (v3.map e_iiiii)]] ⟨[.agg [.v (.int .i64 v4),.v (.int .i64 v5),.lsl 0 0 v6.length]],[.rows 5 (v6.map e_iiiii)]⟩:=by
  unfold ref07_Copy at hr
  have T:=an y2 <| @e_iiiii.eq_1
  apply Spec.fn Tryz.func14 rfl
  focus (simp [Tryz.f14]<;>exact rfl)
  focus
    repeat (first|(with_reducible first|refine mv ?_|refine TO.nil ?_)|((with_reducible first|apply TO.bx (dst:=some 1)|apply TO.al);(repeat (focus (show _ = _;first|exact k1 rfl|exact k2 rfl|(simp only [zz,y2,e_iiiii,Nat.reduceAdd,Nat.reduceMul,Nat.reduceLeDiff,Nat.reduceEqDiff]<;>exact rfl)|exact rfl)));(with_reducible apply TO.here))|((with_reducible apply TX.region);(focus (simp only [zl]<;>exact rfl));(focus rfl);(try dsimp only))|fail)
    apply TO.bl e_iiiii ([] : List (Int × Int × Int × Int × Int)) (wn T) rfl (by simp only [zz,y2,e_iiiii,Nat.reduceAdd,Nat.reduceMul,Nat.reduceLeDiff,Nat.reduceEqDiff,tslice,tparts];exact rfl) rfl rfl
    repeat exact sd T
    refine wA T (g:=?_)
    obtain ⟨v7,h1,hr⟩:=bs hr
    apply TO.ap (f:=e_iiiii) (xs:=([] : List (Int × Int × Int × Int × Int))) (ys:=v3) (wn T) rfl rfl (by first|rfl|simp only [List.length_set]) rfl rfl so22 ni22 zc40 rfl (by rw [by40];exact h1) (fun _=>⟨rfl,rfl,rfl⟩)
    repeat exact sd T
    refine wA T (g:=?_)
    cases hr
    refine ⟨.inr rfl,_,(ry T),?_⟩
    exact wr [some 2] rfl (.rows .nil rfl rfl)
  rfl

end Go.Rex

namespace Go.Rex
open Go.Proofs
open Go Go.Rex Go.RowKit
set_option maxRecDepth 100000
set_option maxHeartbeats 200000
def y3:=an @by38 <| an @cs38 <| an @ni76 <| an @so76 <| @zc38
theorem base_CopyPlaces_spec {v1 : (List (Int × Int × Int))} {v2 : (List (Int × Int × Int))} (hr : base_CopyPlaces v1 = some (v2)) : Spec (lim Tryz.prog) 44 [.list 3 (v1.map e_iii)] ⟨[.lsl 0 0 v2.length],[.rows 3 (v2.map e_iii)]⟩:=by
  unfold base_CopyPlaces at hr
  have T:=an y3 <| @e_iii.eq_1
  apply Spec.fn Tryz.func44 rfl
  focus (simp [Tryz.f44]<;>exact rfl)
  focus
    refine wa_ T (g:=?_)
    apply TO.bl e_iii ([] : List (Int × Int × Int)) (wn T) rfl (by simp only [zz,y3,e_iii,Nat.reduceAdd,Nat.reduceMul,Nat.reduceLeDiff,Nat.reduceEqDiff,tslice,tparts];exact rfl) rfl rfl
    repeat exact sd T
    refine wa_ T (g:=?_)
    obtain ⟨v3,h1,hr⟩:=bs hr
    apply TO.ap (f:=e_iii) (xs:=([] : List (Int × Int × Int))) (ys:=v1) (wn T) rfl rfl (by first|rfl|simp only [List.length_set]) rfl rfl so76 ni76 zc38 rfl (by rw [by38];exact h1) (fun _=>⟨rfl,rfl,rfl⟩)
    repeat exact sd T
    refine wa_ T (g:=?_)
    cases hr
    refine ⟨.inr rfl,_,(ry T),?_⟩
    exact wr [some 0] rfl (.rows .nil rfl rfl)
  rfl

end Go.Rex

namespace Go.Rex
open Go.Proofs
open Go Go.Rex Go.RowKit
set_option maxRecDepth 100000
set_option maxHeartbeats 200000
theorem array_counted_spec {v1 : Int} {v2 : Int} {v3 : Int} {v4 : Int} (hr : array_counted v1 v2 = some (v3,v4)) : Spec (lim Tryz.prog) 66 [.v (.int .i64 v1),.v (.int .i64 v2)] ⟨[.func 123 [] [.fptr true [.v (.int .i64 v3)] 0,.fptr true [.v (.int .i64 v4)] 0]],[]⟩:=by
  unfold array_counted at hr
  have T:=trivial
  apply Spec.fn Tryz.func66 rfl
  focus (simp [Tryz.f66]<;>exact rfl)
  focus
    refine wb_ T (g:=?_)
    cases hr
    refine ⟨.inr rfl,_,(ry T),?_⟩
    exact wr [] rfl .nil
  rfl

end Go.Rex

namespace Go.Rex
open Go.Proofs
open Go Go.Rex Go.RowKit
set_option maxRecDepth 100000
set_option maxHeartbeats 200000
theorem array_refuse_spec {v1 : Bool} {v2 : Int} {v3 : Bool} {v4 : Int} (hr : array_refuse v1 v2 = some (v3,v4)) : Spec (lim Tryz.prog) 70 [.v (.bool v1),.v (.int .i64 v2)] ⟨[.func 126 [] [.fptr true [.v (.bool v3)] 0,.fptr true [.v (.int .i64 v4)] 0]],[]⟩:=by
  unfold array_refuse at hr
  have T:=trivial
  apply Spec.fn Tryz.func70 rfl
  focus (simp [Tryz.f70]<;>exact rfl)
  focus
    refine wb_ T (g:=?_)
    cases hr
    refine ⟨.inr rfl,_,(ry T),?_⟩
    exact wr [] rfl .nil
  rfl

end Go.Rex

namespace Go.Rex
open Go.Proofs
open Go Go.Rex Go.RowKit
set_option maxRecDepth 100000
set_option maxHeartbeats 200000
theorem array_within_spec {v1 : Int} {v2 : Int} {v3 : Int} {v4 : Bool} {v5 : Int} (hr : array_within v1 v2 v3 = some (v4,v5)) : Spec (lim Tryz.prog) 100 [.v (.int .i64 v1),.v (.int .i64 v2),.v (.int .i64 v3)] ⟨[.func 126 [] [.fptr true [.v (.bool v4)] 0,.fptr true [.v (.int .i64 v5)] 0]],[]⟩:=by
  unfold array_within at hr
  have T:=trivial
  apply Spec.fn Tryz.func100 rfl
  focus (simp [Tryz.f100]<;>exact rfl)
  focus
    refine wa_ T (g:=?_)
    rcases ifs hr with ⟨h1,hr⟩|⟨h1,hr⟩
    · have T:=an h1 T
      refine wa_ T (g:=?_)
      obtain ⟨⟨v6,v7⟩,h2,hr⟩:=bs hr
      try dsimp only at hr
      apply TO.cal (wn T) rfl goFn70 (array_refuse_spec h2) rfl rfl rfl
      repeat exact sd T
      refine wa_ T (g:=?_)
      cases hr
      refine ⟨.inr rfl,_,(ry T),?_⟩
      exact wk_ T [] rfl .nil
    · have T:=an h1 T
      refine wa_ T (g:=?_)
      obtain ⟨⟨v8,v9⟩,h3,hr⟩:=bs hr
      try dsimp only at hr
      apply TO.cal (wn T) rfl goFn70 (array_refuse_spec h3) rfl rfl rfl
      repeat exact sd T
      refine wa_ T (g:=?_)
      cases hr
      refine ⟨.inr rfl,_,(ry T),?_⟩
      exact wk_ T [] rfl .nil
  rfl

end Go.Rex

namespace Go.Rex
open Go.Proofs
open Go Go.Rex Go.RowKit
set_option maxRecDepth 100000
set_option maxHeartbeats 200000
def y4:=an @ag3 <| an @ag43 <| an @cs43 <| an @fd118_0 <| an @fd24_0 <| an @fd24_1 <| an @ok43 <| an @st43 <| @zc43
theorem array_rig_sound_spec {v1 : Int} {v2 : Int} {v3 : (List (Int × Int × Int × Int × Int))} {v4 : Int} {v5 : Int} (hr : array_rig_sound v1 v2 v3 = some (v4,v5)) : Spec (lim Tryz.prog) 65 [.agg [.v (.int .i64 v1),.v (.int .i64 v2),.list 5 (v3.map e_iiiii)]] ⟨[.agg [.v (.int .i64 v4),.v (.int .i64 v5)]],[]⟩:=by
  unfold array_rig_sound at hr
  have T:=an y4 <| @e_iiiii.eq_1
  apply Spec.fn Tryz.func65 rfl
  focus (simp [Tryz.f65]<;>exact rfl)
  focus
    refine wB T (g:=?_)
    cases hr
    refine ⟨.inr rfl,_,(ry T),?_⟩
    exact wr [] rfl .nil
  rfl

end Go.Rex

namespace Go.Rex
open Go.Proofs
open Go Go.Rex Go.RowKit
set_option maxRecDepth 100000
set_option maxHeartbeats 200000
theorem array_audible_spec {v1 : Int} {v2 : Int} {v3 : Int} {v4 : Int} (hr : array_audible v1 v2 = some (v3,v4)) : Spec (lim Tryz.prog) 64 [.agg [.v (.int .i64 v1),.v (.int .i64 v2)]] ⟨[.func 122 [] [.fptr true [.v (.int .i64 v3),.v (.int .i64 v4)] 0]],[]⟩:=by
  unfold array_audible at hr
  have T:=trivial
  apply Spec.fn Tryz.func64 rfl
  focus (simp [Tryz.f64]<;>exact rfl)
  focus
    refine wb_ T (g:=?_)
    cases hr
    refine ⟨.inr rfl,_,(ry T),?_⟩
    exact wr [] rfl .nil
  rfl

end Go.Rex

namespace Go.Rex
open Go.Proofs
open Go Go.Rex Go.RowKit
set_option maxRecDepth 100000
set_option maxHeartbeats 200000
def y5:=an @ag27 <| @ag4
theorem array_refuse_c1_11f9_spec {v1 : Bool} {v2 : Int} {v3 : Int} (hr : array_refuse_c1_11f9 v1 v2 = some (v3)) : Spec (lim Tryz.prog) 126 [.fptr true [.v (.bool v1)] 0,.fptr true [.v (.int .i64 v2)] 0] ⟨[.v (.int .i64 v3)],[]⟩:=by
  unfold array_refuse_c1_11f9 at hr
  have T:=y5
  apply Spec.fn Tryz.func126 rfl
  focus (simp [Tryz.f126]<;>exact rfl)
  focus
    refine wA T (g:=?_)
    rcases ifs hr with ⟨h1,hr⟩|⟨h1,hr⟩
    · have T:=an h1 T
      refine wA T (g:=?_)
      cases hr
      refine ⟨.inr rfl,_,(ry T),?_⟩
      exact wk_ T [] rfl .nil
    · have T:=an h1 T
      refine wa_ T (g:=?_)
      cases hr
      refine ⟨.inr rfl,_,(ry T),?_⟩
      exact wk_ T [] rfl .nil
  rfl

end Go.Rex

namespace Go.Rex
open Go.Proofs
open Go Go.Rex Go.RowKit
set_option maxRecDepth 100000
set_option maxHeartbeats 200000
def y6:=an @ag121 <| an @cs121 <| an @ok121 <| an @so182 <| an @wi64_0a1 <| @wi64_1a1
theorem array_firstError_751b_spec {v1 : Bool} {v2 : Int} {v3 : Bool} {v4 : Int} {v5 : Int} (hr : array_firstError_751b v1 v2 v3 v4 = some (v5)) : Spec (lim Tryz.prog) 63 [.list 1 [[.func 126 [] [.fptr true [.v (.bool v1)] 0,.fptr true [.v (.int .i64 v2)] 0]],[.func 126 [] [.fptr true [.v (.bool v3)] 0,.fptr true [.v (.int .i64 v4)] 0]]]] ⟨[.v (.int .i64 v5)],[]⟩:=by
  unfold array_firstError_751b at hr
  have T:=y6
  apply Spec.fn Tryz.func63 rfl
  focus (simp [Tryz.f63]<;>exact rfl)
  focus
    refine wc_ T (g:=?_)
    refine TX.unroll ?_
    repeat (first|(with_reducible first|refine mv ?_|refine TO.nil ?_)|((with_reducible first|apply TO.bin|apply TO.ia|apply TO.ld|apply TO.asg|apply TO.mv);(repeat (focus (show _ = _;first|exact k1 rfl|exact k2 rfl|(simp only [zz,y6,Nat.reduceAdd,Nat.reduceMul,Nat.reduceLeDiff,Nat.reduceEqDiff,tindexAddr,z5,Int.reduceToNat,Int.reduceLE,Int.reduceLT,Int.cast_ofNat_Int,tload,rowOf,partT,List.getElem?_map]<;>exact rfl)|exact rfl)));(with_reducible apply TO.here))|((with_reducible apply TX.region);(focus (simp only [zl]<;>exact rfl));(focus rfl);(try dsimp only))|((with_reducible apply TX.cond_true);(focus rfl);(focus (first|rfl|(simp only [z1,zn];done))))|((with_reducible apply TX.cond_false);(focus rfl);(focus (first|rfl|(simp only [z1,zn];done))))|fail)
    obtain ⟨v6,h1,hr⟩:=bs hr
    apply TO.cal (wn T) rfl goFn126 (array_refuse_c1_11f9_spec h1) rfl rfl rfl
    repeat exact sd T
    refine wa_ T (g:=?_)
    rcases ifs hr with ⟨h2,hr⟩|⟨h2,hr⟩
    · have T:=an h2 T
      refine wa_ T (g:=?_)
      cases hr
      refine ⟨.inr rfl,_,(ry T),?_⟩
      exact wk_ T [] rfl .nil
    · have T:=an h2 T
      refine wa_ T (g:=?_)
      refine TX.unroll ?_
      repeat (first|(with_reducible first|refine mv ?_|refine TO.nil ?_)|((with_reducible first|apply TO.bin|apply TO.ia|apply TO.ld|apply TO.asg|apply TO.mv);(repeat (focus (show _ = _;first|exact k1 rfl|exact k2 rfl|(simp only [zz,y6,Nat.reduceAdd,Nat.reduceMul,Nat.reduceLeDiff,Nat.reduceEqDiff,tindexAddr,z5,Int.reduceToNat,Int.reduceLE,Int.reduceLT,Int.cast_ofNat_Int,tload,rowOf,partT,List.getElem?_map,h2]<;>exact rfl)|exact rfl)));(with_reducible apply TO.here))|((with_reducible apply TX.region);(focus (simp only [zl]<;>exact rfl));(focus rfl);(try dsimp only))|((with_reducible apply TX.cond_true);(focus rfl);(focus (first|rfl|(simp only [z1,zn,h2];done))))|((with_reducible apply TX.cond_false);(focus rfl);(focus (first|rfl|(simp only [z1,zn,h2];done))))|fail)
      obtain ⟨v7,h3,hr⟩:=bs hr
      apply TO.cal (wn T) rfl goFn126 (array_refuse_c1_11f9_spec h3) rfl rfl rfl
      repeat exact sd T
      refine wa_ T (g:=?_)
      rcases ifs hr with ⟨h4,hr⟩|⟨h4,hr⟩
      · have T:=an h4 T
        refine wa_ T (g:=?_)
        cases hr
        refine ⟨.inr rfl,_,(ry T),?_⟩
        exact wk_ T [] rfl .nil
      · have T:=an h4 T
        refine wa_ T (g:=?_)
        refine TX.unroll ?_
        refine wa_ T (g:=?_)
        cases hr
        refine ⟨.inr rfl,_,(ry T),?_⟩
        exact wk_ T [] rfl .nil
  rfl

end Go.Rex

namespace Go.Rex
open Go.Proofs
open Go Go.Rex Go.RowKit
set_option maxRecDepth 100000
set_option maxHeartbeats 200000
def y7:=an @ag3 <| an @cs121 <| an @fd43_0 <| an @fd43_1 <| an @so182 <| @zc121
theorem array_audible_c1_eebc_spec {v1 : Int} {v2 : Int} {v3 : Int} (hr : array_audible_c1_eebc v1 v2 = some (v3)) : Spec (lim Tryz.prog) 122 [.fptr true [.v (.int .i64 v1),.v (.int .i64 v2)] 0] ⟨[.v (.int .i64 v3)],[]⟩:=by
  unfold array_audible_c1_eebc at hr
  have T:=y7
  apply Spec.fn Tryz.func122 rfl
  focus (simp [Tryz.f122]<;>exact rfl)
  focus
    refine wA T (g:=?_)
    obtain ⟨⟨v4,v5⟩,h1,hr⟩:=bs hr
    try dsimp only at hr
    apply TD.cal (wn T) rfl goFn100 (array_within_spec h1) rfl rfl rfl
    repeat exact sd T
    refine wA T (g:=?_)
    obtain ⟨⟨v6,v7⟩,h2,hr⟩:=bs hr
    try dsimp only at hr
    apply TD.cal (wn T) rfl goFn100 (array_within_spec h2) rfl rfl rfl
    repeat exact sd T
    refine we_ T (g:=?_)
    obtain ⟨v8,h3,hr⟩:=bs hr
    apply TD.cal (wn T) rfl goFn63 (array_firstError_751b_spec h3) rfl rfl rfl
    repeat exact sd T
    refine wa_ T (g:=?_)
    cases hr
    refine ⟨.inr rfl,_,(ry T),?_⟩
    exact wr [] rfl .nil
  rfl

end Go.Rex

namespace Go.Rex
open Go.Proofs
open Go Go.Rex Go.RowKit
set_option maxRecDepth 100000
set_option maxHeartbeats 200000
def y8:=an @ag3 <| an @cs121 <| an @so182 <| @zc121
theorem array_counted_c1_b585_spec {v1 : Int} {v2 : Int} {v3 : Int} (hr : array_counted_c1_b585 v1 v2 = some (v3)) : Spec (lim Tryz.prog) 123 [.fptr true [.v (.int .i64 v1)] 0,.fptr true [.v (.int .i64 v2)] 0] ⟨[.v (.int .i64 v3)],[]⟩:=by
  unfold array_counted_c1_b585 at hr
  have T:=y8
  apply Spec.fn Tryz.func123 rfl
  focus (simp [Tryz.f123]<;>exact rfl)
  focus
    refine wA T (g:=?_)
    obtain ⟨⟨v4,v5⟩,h1,hr⟩:=bs hr
    try dsimp only at hr
    apply TD.cal (wn T) rfl goFn70 (array_refuse_spec h1) rfl rfl rfl
    repeat exact sd T
    refine wA T (g:=?_)
    obtain ⟨⟨v6,v7⟩,h2,hr⟩:=bs hr
    try dsimp only at hr
    apply TD.cal (wn T) rfl goFn70 (array_refuse_spec h2) rfl rfl rfl
    repeat exact sd T
    refine we_ T (g:=?_)
    obtain ⟨v8,h3,hr⟩:=bs hr
    apply TD.cal (wn T) rfl goFn63 (array_firstError_751b_spec h3) rfl rfl rfl
    repeat exact sd T
    refine wa_ T (g:=?_)
    cases hr
    refine ⟨.inr rfl,_,(ry T),?_⟩
    exact wr [] rfl .nil
  rfl

end Go.Rex

namespace Go.Rex
open Go.Proofs
open Go Go.Rex Go.RowKit
set_option maxRecDepth 100000
set_option maxHeartbeats 200000
def y9:=an @ag121 <| an @cs121 <| an @ok121 <| an @so182 <| an @wi64_0a1 <| @wi64_1a1
theorem array_firstError_2e50_spec {v1 : Int} {v2 : Int} {v3 : Int} {v4 : Int} {v5 : Int} (hr : array_firstError_2e50 v1 v2 v3 v4 = some (v5)) : Spec (lim Tryz.prog) 63 [.list 1 [[.func 122 [] [.fptr true [.v (.int .i64 v1),.v (.int .i64 v2)] 0]],[.func 123 [] [.fptr true [.v (.int .i64 v3)] 0,.fptr true [.v (.int .i64 v4)] 0]]]] ⟨[.v (.int .i64 v5)],[]⟩:=by
  unfold array_firstError_2e50 at hr
  have T:=y9
  apply Spec.fn Tryz.func63 rfl
  focus (simp [Tryz.f63]<;>exact rfl)
  focus
    refine wc_ T (g:=?_)
    refine TX.unroll ?_
    repeat (first|(with_reducible first|refine mv ?_|refine TO.nil ?_)|((with_reducible first|apply TO.bin|apply TO.ia|apply TO.ld|apply TO.asg|apply TO.mv);(repeat (focus (show _ = _;first|exact k1 rfl|exact k2 rfl|(simp only [zz,y9,Nat.reduceAdd,Nat.reduceMul,Nat.reduceLeDiff,Nat.reduceEqDiff,tindexAddr,z5,Int.reduceToNat,Int.reduceLE,Int.reduceLT,Int.cast_ofNat_Int,tload,rowOf,partT,List.getElem?_map]<;>exact rfl)|exact rfl)));(with_reducible apply TO.here))|((with_reducible apply TX.region);(focus (simp only [zl]<;>exact rfl));(focus rfl);(try dsimp only))|((with_reducible apply TX.cond_true);(focus rfl);(focus (first|rfl|(simp only [z1,zn];done))))|((with_reducible apply TX.cond_false);(focus rfl);(focus (first|rfl|(simp only [z1,zn];done))))|fail)
    obtain ⟨v6,h1,hr⟩:=bs hr
    apply TO.cal (wn T) rfl goFn122 (array_audible_c1_eebc_spec h1) rfl rfl rfl
    repeat exact sd T
    refine wa_ T (g:=?_)
    rcases ifs hr with ⟨h2,hr⟩|⟨h2,hr⟩
    · have T:=an h2 T
      refine wa_ T (g:=?_)
      cases hr
      refine ⟨.inr rfl,_,(ry T),?_⟩
      exact wk_ T [] rfl .nil
    · have T:=an h2 T
      refine wa_ T (g:=?_)
      refine TX.unroll ?_
      repeat (first|(with_reducible first|refine mv ?_|refine TO.nil ?_)|((with_reducible first|apply TO.bin|apply TO.ia|apply TO.ld|apply TO.asg|apply TO.mv);(repeat (focus (show _ = _;first|exact k1 rfl|exact k2 rfl|(simp only [zz,y9,Nat.reduceAdd,Nat.reduceMul,Nat.reduceLeDiff,Nat.reduceEqDiff,tindexAddr,z5,Int.reduceToNat,Int.reduceLE,Int.reduceLT,Int.cast_ofNat_Int,tload,rowOf,partT,List.getElem?_map,h2]<;>exact rfl)|exact rfl)));(with_reducible apply TO.here))|((with_reducible apply TX.region);(focus (simp only [zl]<;>exact rfl));(focus rfl);(try dsimp only))|((with_reducible apply TX.cond_true);(focus rfl);(focus (first|rfl|(simp only [z1,zn,h2];done))))|((with_reducible apply TX.cond_false);(focus rfl);(focus (first|rfl|(simp only [z1,zn,h2];done))))|fail)
      obtain ⟨v7,h3,hr⟩:=bs hr
      apply TO.cal (wn T) rfl goFn123 (array_counted_c1_b585_spec h3) rfl rfl rfl
      repeat exact sd T
      refine wa_ T (g:=?_)
      rcases ifs hr with ⟨h4,hr⟩|⟨h4,hr⟩
      · have T:=an h4 T
        refine wa_ T (g:=?_)
        cases hr
        refine ⟨.inr rfl,_,(ry T),?_⟩
        exact wk_ T [] rfl .nil
      · have T:=an h4 T
        refine wa_ T (g:=?_)
        refine TX.unroll ?_
        refine wa_ T (g:=?_)
        cases hr
        refine ⟨.inr rfl,_,(ry T),?_⟩
        exact wk_ T [] rfl .nil
  rfl

end Go.Rex

namespace Go.Rex
open Go.Proofs
open Go Go.Rex Go.RowKit
set_option maxRecDepth 100000
set_option maxHeartbeats 200000
theorem array_each_aa71_spec {v1 : Int} {v2 : (List Int)} {v3 : Int} {v4 : Int} {v5 : Int} {v6 : (List Int)} {v7 : Int} {v8 : Int} (hr : array_each_aa71 v1 v2 v3 v4 = some (v5,v6,v7,v8)) : Spec (lim Tryz.prog) 143 [.v (.int .i64 v1),.func 162 [] [.fptr true [.list 1 (v2.map e_i)] 0,.fptr true [.v (.int .i64 v3)] 0,.fptr true [.v (.int .i64 v4)] 0]] ⟨[.func 168 [] [.fptr true [.v (.int .i64 v5)] 0,.fptr true [.func 162 [] [.fptr true [.list 1 (v6.map e_i)] 0,.fptr true [.v (.int .i64 v7)] 0,.fptr true [.v (.int .i64 v8)] 0]] 0]],[]⟩:=by
  unfold array_each_aa71 at hr
  have T:=@e_i.eq_1
  apply Spec.fn Tryz.func143 rfl
  focus (simp [Tryz.f143]<;>exact rfl)
  focus
    refine wb_ T (g:=?_)
    cases hr
    refine ⟨.inr rfl,_,(ry T),?_⟩
    exact wr [] rfl .nil
  rfl

end Go.Rex

namespace Go.Rex
open Go.Proofs
open Go Go.Rex Go.RowKit
set_option maxRecDepth 100000
set_option maxHeartbeats 200000
def y10:=an @ag87 <| @so87
theorem array_allWithin_spec {v1 : (List Int)} {v2 : Int} {v3 : Int} {v4 : Int} {v5 : (List Int)} {v6 : Int} {v7 : Int} (hr : array_allWithin v1 v2 v3 = some (v4,v5,v6,v7)) : Spec (lim Tryz.prog) 124 [.list 1 (v1.map e_i),.v (.int .i64 v2),.v (.int .i64 v3)] ⟨[.func 168 [] [.fptr true [.v (.int .i64 v4)] 0,.fptr true [.func 162 [] [.fptr true [.list 1 (v5.map e_i)] 0,.fptr true [.v (.int .i64 v6)] 0,.fptr true [.v (.int .i64 v7)] 0]] 0]],[]⟩:=by
  unfold array_allWithin at hr
  have T:=an y10 <| @e_i.eq_1
  apply Spec.fn Tryz.func124 rfl
  focus (simp [Tryz.f124]<;>exact rfl)
  focus
    refine wD T (g:=?_)
    obtain ⟨⟨v8,v9,v10,v11⟩,h1,hr⟩:=bs hr
    try dsimp only at hr
    apply TO.cal (wn T) rfl goFn143 (array_each_aa71_spec h1) rfl rfl rfl
    repeat exact sd T
    refine wa_ T (g:=?_)
    cases hr
    refine ⟨.inr rfl,_,(ry T),?_⟩
    exact wr [] rfl .nil
  rfl

end Go.Rex

namespace Go.Rex
open Go.Proofs
open Go Go.Rex Go.RowKit
set_option maxRecDepth 100000
set_option maxHeartbeats 200000
def y11:=an @ag3 <| an @cs3 <| an @fd38_0 <| an @fd38_1 <| an @fd38_2 <| an @so87 <| @zc3
theorem array_placed_spec {v1 : Int} {v2 : Int} {v3 : Int} {v4 : Int} {v5 : (List Int)} {v6 : Int} {v7 : Int} (hr : array_placed v1 v2 v3 = some (v4,v5,v6,v7)) : Spec (lim Tryz.prog) 67 [.agg [.v (.int .i64 v1),.v (.int .i64 v2),.v (.int .i64 v3)]] ⟨[.func 168 [] [.fptr true [.v (.int .i64 v4)] 0,.fptr true [.func 162 [] [.fptr true [.list 1 (v5.map e_i)] 0,.fptr true [.v (.int .i64 v6)] 0,.fptr true [.v (.int .i64 v7)] 0]] 0]],[]⟩:=by
  unfold array_placed at hr
  have T:=an y11 <| @e_i.eq_1
  apply Spec.fn Tryz.func67 rfl
  focus (simp [Tryz.f67]<;>exact rfl)
  focus
    refine wB T (g:=?_)
    apply TO.bm e_i ([v1,v2,v3] : List Int) (wn T) rfl (by simp only [zz,y11,e_i,Nat.reduceAdd,Nat.reduceMul,Nat.reduceLeDiff,Nat.reduceEqDiff,tslice,tparts];exact rfl) rfl
    repeat exact sd T
    refine wa_ T (g:=?_)
    obtain ⟨⟨v8,v9,v10,v11⟩,h1,hr⟩:=bs hr
    try dsimp only at hr
    apply TO.cal (wn T) rfl goFn124 (array_allWithin_spec h1) rfl rfl rfl
    repeat exact sd T
    refine wa_ T (g:=?_)
    cases hr
    refine ⟨.inr rfl,_,(ry T),?_⟩
    exact wr [] rfl .nil
  rfl

end Go.Rex

namespace Go.Rex
open Go.Proofs
open Go Go.Rex Go.RowKit
set_option maxRecDepth 100000
set_option maxHeartbeats 200000
theorem array_adjusted_spec {v1 : Int} {v2 : Int} {v3 : Int} {v4 : Int} (hr : array_adjusted v1 v2 = some (v3,v4)) : Spec (lim Tryz.prog) 68 [.v (.int .i64 v1),.v (.int .i64 v2)] ⟨[.func 125 [] [.fptr true [.v (.int .i64 v3)] 0,.fptr true [.v (.int .i64 v4)] 0]],[]⟩:=by
  unfold array_adjusted at hr
  have T:=trivial
  apply Spec.fn Tryz.func68 rfl
  focus (simp [Tryz.f68]<;>exact rfl)
  focus
    refine wb_ T (g:=?_)
    cases hr
    refine ⟨.inr rfl,_,(ry T),?_⟩
    exact wr [] rfl .nil
  rfl

end Go.Rex

namespace Go.Rex
open Go.Proofs
open Go Go.Rex Go.RowKit
set_option maxRecDepth 100000
set_option maxHeartbeats 200000
def y12:=an @ag3 <| an @ag87 <| an @cs3 <| an @ok3 <| @so87
theorem array_allWithin_c1_ea58_spec {v1 : Int} {v2 : (List Int)} {v3 : Int} {v4 : Int} {v5 : Int} (hr : array_allWithin_c1_ea58 v1 v2 v3 v4 = some (v5)) : Spec (lim Tryz.prog) 162 [.v (.int .i64 v1),.fptr true [.list 1 (v2.map e_i)] 0,.fptr true [.v (.int .i64 v3)] 0,.fptr true [.v (.int .i64 v4)] 0] ⟨[.v (.int .i64 v5)],[]⟩:=by
  unfold array_allWithin_c1_ea58 at hr
  have T:=an y12 <| @e_i.eq_1
  apply Spec.fn Tryz.func162 rfl
  focus (simp [Tryz.f162]<;>exact rfl)
  focus
    refine wA T (g:=?_)
    obtain ⟨v6,h1,hr⟩:=bs hr
    have T:=an (gx e_i h1) T
    refine wA T (g:=?_)
    obtain ⟨⟨v7,v8⟩,h2,hr⟩:=bs hr
    try dsimp only at hr
    apply TD.cal (wn T) rfl goFn100 (array_within_spec h2) rfl rfl rfl
    repeat exact sd T
    refine wa_ T (g:=?_)
    obtain ⟨v9,h3,hr⟩:=bs hr
    apply TD.cal (wn T) rfl goFn126 (array_refuse_c1_11f9_spec h3) rfl rfl rfl
    repeat exact sd T
    refine wa_ T (g:=?_)
    cases hr
    refine ⟨.inr rfl,_,(ry T),?_⟩
    exact wr [] rfl .nil
  rfl

end Go.Rex

namespace Go.Rex
open Go.Proofs
open Go Go.Rex Go.RowKit
set_option maxRecDepth 100000
set_option maxHeartbeats 200000
def y13:=an @ag195 <| an @ag3 <| @wi64_0a1
theorem array_each_c1_6239_spec {v1 : Int} {v2 : (List Int)} {v3 : Int} {v4 : Int} {v5 : Int} (hr : array_each_c1_6239 v1 v2 v3 v4 = some (v5)) : Spec (lim Tryz.prog) 168 [.fptr true [.v (.int .i64 v1)] 0,.fptr true [.func 162 [] [.fptr true [.list 1 (v2.map e_i)] 0,.fptr true [.v (.int .i64 v3)] 0,.fptr true [.v (.int .i64 v4)] 0]] 0] ⟨[.v (.int .i64 v5)],[]⟩:=by
  unfold array_each_c1_6239 at hr
  have T:=an y13 <| @e_i.eq_1
  apply Spec.fn Tryz.func168 rfl
  focus (simp [Tryz.f168]<;>exact rfl)
  focus
    refine wA T (g:=?_)
    obtain ⟨v10,h7,hr⟩:=bs hr
    refine TX.loopE (step:=array_each_c1_6239_l1 v1 v2 v3 v4) (x:=0) h7 (fun v6=>⟨.junk :: .fptr true [.func 162 [] [.fptr true [.list 1 (v2.map e_i)] 0,.fptr true [.v (.int .i64 v3)] 0,.fptr true [.v (.int .i64 v4)] 0]] 0 :: .junk :: .junk :: .junk :: .v (.int .i64 v1) :: .v (.int .i64 v6) :: .junk :: .junk :: .junk :: .junk :: .junk :: .junk :: .junk :: .junk :: .junk :: [],[]⟩) (fun e=>match e with|(.inl v8)=>(.ret,⟨.junk :: .junk :: .v (.int .i64 v8) :: .junk :: .junk :: .junk :: .junk :: .junk :: .junk :: .junk :: .junk :: .junk :: .junk :: .junk :: .junk :: .junk :: [],[]⟩)|(.inr _)=>(.exit 0,⟨.junk :: .junk :: .junk :: .junk :: .junk :: .junk :: .junk :: .junk :: .junk :: .junk :: .junk :: .junk :: .junk :: .junk :: .junk :: .junk :: [],[]⟩)) ?_ ?_ ?_ ?_
    · rintro v6 v0 hr
      dsimp only [array_each_c1_6239_l1] at hr
      try dsimp only
      refine wa_ T (g:=?_)
      rcases ifs hr with ⟨h4,hr⟩|⟨h4,hr⟩
      · have T:=an h4 T
        refine wA T (g:=?_)
        obtain ⟨v9,h5,hr⟩:=bs hr
        apply TO.cal (wn T) rfl goFn162 (array_allWithin_c1_ea58_spec h5) rfl rfl rfl
        repeat exact sd T
        refine wa_ T (g:=?_)
        rcases ifs hr with ⟨h6,hr⟩|⟨h6,hr⟩
        · have T:=an h6 T
          refine wa_ T (g:=?_)
          cases hr
          refine ⟨rfl,?_⟩
          exact wk_ T [] rfl .nil
        · have T:=an h6 T
          refine wa_ T (g:=?_)
          cases hr
          refine ⟨rfl,?_⟩
          exact wk_ T [] rfl .nil
      · have T:=an h4 T
        refine wa_ T (g:=?_)
        cases hr
        refine ⟨rfl,?_⟩
        exact wk_ T [] rfl .nil
    · intro e h;rcases e with _|e<;>cases h
    · try dsimp only
      rcases v10 with v11|_
      · try dsimp only at hr
        try dsimp only
        refine wa_ T (g:=?_)
        cases hr
        refine ⟨.inr rfl,_,(ry T),?_⟩
        exact wr [] rfl .nil
      · try dsimp only at hr
        try dsimp only
        refine wa_ T (g:=?_)
        cases hr
        refine ⟨.inr rfl,_,(ry T),?_⟩
        exact wr [] rfl .nil
    · try dsimp only
      exact wr [] rfl .nil
  rfl

end Go.Rex

namespace Go.Rex
open Go.Proofs
open Go Go.Rex Go.RowKit
set_option maxRecDepth 100000
set_option maxHeartbeats 200000
def y14:=an @ag3 <| an @cs121 <| an @so182 <| @zc121
theorem array_adjusted_c1_b585_spec {v1 : Int} {v2 : Int} {v3 : Int} (hr : array_adjusted_c1_b585 v1 v2 = some (v3)) : Spec (lim Tryz.prog) 125 [.fptr true [.v (.int .i64 v1)] 0,.fptr true [.v (.int .i64 v2)] 0] ⟨[.v (.int .i64 v3)],[]⟩:=by
  unfold array_adjusted_c1_b585 at hr
  have T:=y14
  apply Spec.fn Tryz.func125 rfl
  focus (simp [Tryz.f125]<;>exact rfl)
  focus
    refine wA T (g:=?_)
    obtain ⟨⟨v4,v5⟩,h1,hr⟩:=bs hr
    try dsimp only at hr
    apply TD.cal (wn T) rfl goFn100 (array_within_spec h1) rfl rfl rfl
    repeat exact sd T
    refine wA T (g:=?_)
    obtain ⟨⟨v6,v7⟩,h2,hr⟩:=bs hr
    try dsimp only at hr
    apply TD.cal (wn T) rfl goFn100 (array_within_spec h2) rfl rfl rfl
    repeat exact sd T
    refine we_ T (g:=?_)
    obtain ⟨v8,h3,hr⟩:=bs hr
    apply TD.cal (wn T) rfl goFn63 (array_firstError_751b_spec h3) rfl rfl rfl
    repeat exact sd T
    refine wa_ T (g:=?_)
    cases hr
    refine ⟨.inr rfl,_,(ry T),?_⟩
    exact wr [] rfl .nil
  rfl

end Go.Rex

namespace Go.Rex
open Go.Proofs
open Go Go.Rex Go.RowKit
set_option maxRecDepth 100000
set_option maxHeartbeats 200000
def y15:=an @ag121 <| an @cs121 <| an @ok121 <| an @so182 <| an @wi64_0a1 <| @wi64_1a1
theorem array_firstError_34f2_spec {v1 : Int} {v2 : (List Int)} {v3 : Int} {v4 : Int} {v5 : Int} {v6 : Int} {v7 : Int} (hr : array_firstError_34f2 v1 v2 v3 v4 v5 v6 = some (v7)) : Spec (lim Tryz.prog) 63 [.list 1 [[.func 168 [] [.fptr true [.v (.int .i64 v1)] 0,.fptr true [.func 162 [] [.fptr true [.list 1 (v2.map e_i)] 0,.fptr true [.v (.int .i64 v3)] 0,.fptr true [.v (.int .i64 v4)] 0]] 0]],[.func 125 [] [.fptr true [.v (.int .i64 v5)] 0,.fptr true [.v (.int .i64 v6)] 0]]]] ⟨[.v (.int .i64 v7)],[]⟩:=by
  unfold array_firstError_34f2 at hr
  have T:=an y15 <| @e_i.eq_1
  apply Spec.fn Tryz.func63 rfl
  focus (simp [Tryz.f63]<;>exact rfl)
  focus
    refine wc_ T (g:=?_)
    refine TX.unroll ?_
    repeat (first|(with_reducible first|refine mv ?_|refine TO.nil ?_)|((with_reducible first|apply TO.bin|apply TO.ia|apply TO.ld|apply TO.asg|apply TO.mv);(repeat (focus (show _ = _;first|exact k1 rfl|exact k2 rfl|(simp only [zz,y15,e_i,Nat.reduceAdd,Nat.reduceMul,Nat.reduceLeDiff,Nat.reduceEqDiff,tindexAddr,z5,Int.reduceToNat,Int.reduceLE,Int.reduceLT,Int.cast_ofNat_Int,tload,rowOf,partT,List.getElem?_map]<;>exact rfl)|exact rfl)));(with_reducible apply TO.here))|((with_reducible apply TX.region);(focus (simp only [zl]<;>exact rfl));(focus rfl);(try dsimp only))|((with_reducible apply TX.cond_true);(focus rfl);(focus (first|rfl|(simp only [z1,zn];done))))|((with_reducible apply TX.cond_false);(focus rfl);(focus (first|rfl|(simp only [z1,zn];done))))|fail)
    obtain ⟨v8,h1,hr⟩:=bs hr
    apply TO.cal (wn T) rfl goFn168 (array_each_c1_6239_spec h1) rfl rfl rfl
    repeat exact sd T
    refine wa_ T (g:=?_)
    rcases ifs hr with ⟨h2,hr⟩|⟨h2,hr⟩
    · have T:=an h2 T
      refine wa_ T (g:=?_)
      cases hr
      refine ⟨.inr rfl,_,(ry T),?_⟩
      exact wk_ T [] rfl .nil
    · have T:=an h2 T
      refine wa_ T (g:=?_)
      refine TX.unroll ?_
      repeat (first|(with_reducible first|refine mv ?_|refine TO.nil ?_)|((with_reducible first|apply TO.bin|apply TO.ia|apply TO.ld|apply TO.asg|apply TO.mv);(repeat (focus (show _ = _;first|exact k1 rfl|exact k2 rfl|(simp only [zz,y15,e_i,Nat.reduceAdd,Nat.reduceMul,Nat.reduceLeDiff,Nat.reduceEqDiff,tindexAddr,z5,Int.reduceToNat,Int.reduceLE,Int.reduceLT,Int.cast_ofNat_Int,tload,rowOf,partT,List.getElem?_map,h2]<;>exact rfl)|exact rfl)));(with_reducible apply TO.here))|((with_reducible apply TX.region);(focus (simp only [zl]<;>exact rfl));(focus rfl);(try dsimp only))|((with_reducible apply TX.cond_true);(focus rfl);(focus (first|rfl|(simp only [z1,zn,h2];done))))|((with_reducible apply TX.cond_false);(focus rfl);(focus (first|rfl|(simp only [z1,zn,h2];done))))|fail)
      obtain ⟨v9,h3,hr⟩:=bs hr
      apply TO.cal (wn T) rfl goFn125 (array_adjusted_c1_b585_spec h3) rfl rfl rfl
      repeat exact sd T
      refine wa_ T (g:=?_)
      rcases ifs hr with ⟨h4,hr⟩|⟨h4,hr⟩
      · have T:=an h4 T
        refine wa_ T (g:=?_)
        cases hr
        refine ⟨.inr rfl,_,(ry T),?_⟩
        exact wk_ T [] rfl .nil
      · have T:=an h4 T
        refine wa_ T (g:=?_)
        refine TX.unroll ?_
        refine wa_ T (g:=?_)
        cases hr
        refine ⟨.inr rfl,_,(ry T),?_⟩
        exact wk_ T [] rfl .nil
  rfl

end Go.Rex

namespace Go.Rex
open Go.Proofs
open Go Go.Rex Go.RowKit
set_option maxRecDepth 100000
set_option maxHeartbeats 1000000
def y16:=an @ag118 <| an @ag22 <| an @ag24 <| an @ag3 <| an @ag38 <| an @ag40 <| an @cs118 <| an @cs121 <| an @cs24 <| an @cs38 <| an @cs40 <| an @fd118_0 <| an @fd24_2 <| an @fd40_0 <| an @fd40_1 <| an @fd40_2 <| an @ok118 <| an @ok24 <| an @ok38 <| an @ok40 <| an @so182 <| an @so22 <| an @st118 <| an @zc118 <| an @zc121 <| an @zc40 <| @wi64_0a1
theorem array_CheckArray_spec {v1 : Int} {v2 : Int} {v3 : (List (Int × Int × Int × Int × Int))} {v4 : Int} {v5 : Int} (hr : array_CheckArray v1 v2 v3 = some (v4,v5)) : Spec (lim Tryz.prog) 13 [.agg [.v (.int .i64 v1),.v (.int .i64 v2),.list 5 (v3.map e_iiiii)]] ⟨[.tuple [.v (.int .i64 v4),.v (.int .i64 v5)]],[]⟩:=by
  unfold array_CheckArray at hr
  have T:=an y16 <| @e_iiiii.eq_1
  apply Spec.fn Tryz.func13 rfl
  focus (simp [Tryz.f13]<;>exact rfl)
  focus
    refine wB T (g:=?_)
    obtain ⟨⟨v6,v7⟩,h1,hr⟩:=bs hr
    try dsimp only at hr
    apply TD.cal (wn T) rfl goFn65 (array_rig_sound_spec h1) rfl rfl rfl
    repeat exact sd T
    refine wa_ T (g:=?_)
    obtain ⟨⟨v8,v9⟩,h2,hr⟩:=bs hr
    try dsimp only at hr
    apply TD.cal (wn T) rfl goFn64 (array_audible_spec h2) rfl rfl rfl
    repeat exact sd T
    refine wC T (g:=?_)
    obtain ⟨⟨v10,v11⟩,h3,hr⟩:=bs hr
    try dsimp only at hr
    apply TD.cal (wn T) rfl goFn66 (array_counted_spec h3) rfl rfl rfl
    repeat exact sd T
    refine we_ T (g:=?_)
    obtain ⟨v12,h4,hr⟩:=bs hr
    apply TD.cal (wn T) rfl goFn63 (array_firstError_2e50_spec h4) rfl rfl rfl
    repeat exact sd T
    refine wa_ T (g:=?_)
    rcases ifs hr with ⟨h5,hr⟩|⟨h5,hr⟩
    · have T:=an h5 T
      refine wa_ T (g:=?_)
      cases hr
      refine ⟨.inr rfl,_,(ry T),?_⟩
      exact wk_ T [] rfl .nil
    · have T:=an h5 T
      refine wC T (g:=?_)
      obtain ⟨v40,h18,hr⟩:=bs hr
      refine TX.loopE (step:=array_CheckArray_l1 v3) (x:=0) h18 (fun v13=>⟨.junk :: .junk :: .junk :: .junk :: .junk :: .junk :: .junk :: .junk :: .junk :: .junk :: .junk :: .junk :: .junk :: .junk :: .junk :: .junk :: .junk :: .junk :: .junk :: .junk :: .junk :: .junk :: .junk :: .junk :: .junk :: .junk :: .list 5 (v3.map e_iiiii) :: .v (.int .i64 (v3.length : Int)) :: .v (.int .i64 v13) :: .junk :: .junk :: .junk :: .junk :: .junk :: .junk :: .junk :: .junk :: .junk :: .junk :: .junk :: .junk :: .junk :: .junk :: .junk :: .junk :: .junk :: .junk :: .junk :: [],[]⟩) (fun e=>match e with|(.inl (v26,v27))=>(.ret,⟨.junk :: .junk :: .v (.int .i64 v26) :: .v (.int .i64 v27) :: .junk :: .junk :: .junk :: .junk :: .junk :: .junk :: .junk :: .junk :: .junk :: .junk :: .junk :: .junk :: .junk :: .junk :: .junk :: .junk :: .junk :: .junk :: .junk :: .junk :: .junk :: .junk :: .junk :: .junk :: .junk :: .junk :: .junk :: .junk :: .junk :: .junk :: .junk :: .junk :: .junk :: .junk :: .junk :: .junk :: .junk :: .junk :: .junk :: .junk :: .junk :: .junk :: .junk :: .junk :: [],[]⟩)|(.inr _)=>(.exit 0,⟨.junk :: .junk :: .junk :: .junk :: .junk :: .junk :: .junk :: .junk :: .junk :: .junk :: .junk :: .junk :: .junk :: .junk :: .junk :: .junk :: .junk :: .junk :: .junk :: .junk :: .junk :: .junk :: .junk :: .junk :: .junk :: .junk :: .junk :: .junk :: .junk :: .junk :: .junk :: .junk :: .junk :: .junk :: .junk :: .junk :: .junk :: .junk :: .junk :: .junk :: .junk :: .junk :: .junk :: .junk :: .junk :: .junk :: .junk :: .junk :: [],[]⟩)) ?_ ?_ ?_ ?_
      · rintro v13 v0 hr
        dsimp only [array_CheckArray_l1] at hr
        try dsimp only
        refine wa_ T (g:=?_)
        rcases ifs hr with ⟨h12,hr⟩|⟨h12,hr⟩
        · have T:=an h12 T
          refine wa_ T (g:=?_)
          obtain ⟨⟨v28,v29,v30,v31,v32⟩,h13,hr⟩:=bs hr
          try dsimp only at hr
          have T:=an (gx e_iiiii h13) T
          refine wA T (g:=?_)
          obtain ⟨⟨v33,v34,v35,v36⟩,h14,hr⟩:=bs hr
          try dsimp only at hr
          apply TD.cal (wn T) rfl goFn67 (array_placed_spec h14) rfl rfl rfl
          repeat exact sd T
          refine wA T (g:=?_)
          obtain ⟨⟨v37,v38⟩,h15,hr⟩:=bs hr
          try dsimp only at hr
          apply TD.cal (wn T) rfl goFn68 (array_adjusted_spec h15) rfl rfl rfl
          repeat exact sd T
          refine we_ T (g:=?_)
          obtain ⟨v39,h16,hr⟩:=bs hr
          apply TD.cal (wn T) rfl goFn63 (array_firstError_34f2_spec h16) rfl rfl rfl
          repeat exact sd T
          refine wa_ T (g:=?_)
          rcases ifs hr with ⟨h17,hr⟩|⟨h17,hr⟩
          · have T:=an h17 T
            refine wa_ T (g:=?_)
            cases hr
            refine ⟨rfl,?_⟩
            exact wk_ T [] rfl .nil
          · have T:=an h17 T
            refine wa_ T (g:=?_)
            cases hr
            refine ⟨rfl,?_⟩
            exact wk_ T [] rfl .nil
        · have T:=an h12 T
          refine wa_ T (g:=?_)
          cases hr
          refine ⟨rfl,?_⟩
          exact wk_ T [] rfl .nil
      · intro e h;rcases e with _|e<;>cases h
      · try dsimp only
        rcases v40 with ⟨v41,v42⟩|_
        · try dsimp only at hr
          try dsimp only
          refine wa_ T (g:=?_)
          cases hr
          refine ⟨.inr rfl,_,(ry T),?_⟩
          exact wk_ T [] rfl .nil
        · try dsimp only at hr
          try dsimp only
          refine wa_ T (g:=?_)
          cases hr
          refine ⟨.inr rfl,_,(ry T),?_⟩
          exact wk_ T [] rfl .nil
      · try dsimp only
        exact wk_ T [] rfl .nil
  rfl

end Go.Rex

namespace Go.Rex
open Go.Proofs
open Go Go.Rex Go.RowKit
set_option maxRecDepth 100000
set_option maxHeartbeats 200000
def y17:=an @ag24 <| an @cs24 <| an @fd118_0 <| @ok24
theorem array_rig_check_spec {v1 : Int} {v2 : Int} {v3 : (List (Int × Int × Int × Int × Int))} {v4 : Int} (hr : array_rig_check v1 v2 v3 = some (v4)) : Spec (lim Tryz.prog) 69 [.agg [.v (.int .i64 v1),.v (.int .i64 v2),.list 5 (v3.map e_iiiii)]] ⟨[.v (.int .i64 v4)],[]⟩:=by
  unfold array_rig_check at hr
  have T:=an y17 <| @e_iiiii.eq_1
  apply Spec.fn Tryz.func69 rfl
  focus (simp [Tryz.f69]<;>exact rfl)
  focus
    refine wB T (g:=?_)
    obtain ⟨⟨v5,v6⟩,h1,hr⟩:=bs hr
    try dsimp only at hr
    apply TO.cal (wn T) rfl goFn13 (array_CheckArray_spec h1) rfl rfl rfl
    repeat exact sd T
    refine wa_ T (g:=?_)
    cases hr
    refine ⟨.inr rfl,_,(ry T),?_⟩
    exact wr [] rfl .nil
  rfl

end Go.Rex

namespace Go.Rex
open Go.Proofs
open Go Go.Rex Go.RowKit
set_option maxRecDepth 100000
set_option maxHeartbeats 1000000
def y18:=an @ag121 <| an @cs121 <| an @ok121 <| an @so182 <| an @wi64_0a1 <| an @wi64_1a1 <| an @wi64_2a1 <| @wi64_3a1
theorem array_firstError_53a2_spec {v1 : Int} {v2 : Int} {v3 : (List (Int × Int × Int × Int × Int))} {v4 : Int} {v5 : Int} {v6 : Bool} {v7 : Int} {v8 : Bool} {v9 : Int} {v10 : Int} (hr : array_firstError_53a2 v1 v2 v3 v4 v5 v6 v7 v8 v9 = some (v10)) : Spec (lim Tryz.prog) 63 [.list 1 [[.func 69 [.agg [.v (.int .i64 v1),.v (.int .i64 v2),.list 5 (v3.map e_iiiii)]] []],[.func 123 [] [.fptr true [.v (.int .i64 v4)] 0,.fptr true [.v (.int .i64 v5)] 0]],[.func 126 [] [.fptr true [.v (.bool v6)] 0,.fptr true [.v (.int .i64 v7)] 0]],[.func 126 [] [.fptr true [.v (.bool v8)] 0,.fptr true [.v (.int .i64 v9)] 0]]]] ⟨[.v (.int .i64 v10)],[]⟩:=by
  unfold array_firstError_53a2 at hr
  have T:=an y18 <| @e_iiiii.eq_1
  apply Spec.fn Tryz.func63 rfl
  focus (simp [Tryz.f63]<;>exact rfl)
  focus
    refine wc_ T (g:=?_)
    refine TX.unroll ?_
    repeat (first|(with_reducible first|refine mv ?_|refine TO.nil ?_)|((with_reducible first|apply TO.bin|apply TO.ia|apply TO.ld|apply TO.asg|apply TO.mv);(repeat (focus (show _ = _;first|exact k1 rfl|exact k2 rfl|(simp only [zz,y18,e_iiiii,Nat.reduceAdd,Nat.reduceMul,Nat.reduceLeDiff,Nat.reduceEqDiff,tindexAddr,z5,Int.reduceToNat,Int.reduceLE,Int.reduceLT,Int.cast_ofNat_Int,tload,rowOf,partT,List.getElem?_map]<;>exact rfl)|exact rfl)));(with_reducible apply TO.here))|((with_reducible apply TX.region);(focus (simp only [zl]<;>exact rfl));(focus rfl);(try dsimp only))|((with_reducible apply TX.cond_true);(focus rfl);(focus (first|rfl|(simp only [z1,zn];done))))|((with_reducible apply TX.cond_false);(focus rfl);(focus (first|rfl|(simp only [z1,zn];done))))|fail)
    obtain ⟨v11,h1,hr⟩:=bs hr
    apply TO.cal (wn T) rfl goFn69 (array_rig_check_spec h1) rfl rfl rfl
    repeat exact sd T
    refine wa_ T (g:=?_)
    rcases ifs hr with ⟨h2,hr⟩|⟨h2,hr⟩
    · have T:=an h2 T
      refine wa_ T (g:=?_)
      cases hr
      refine ⟨.inr rfl,_,(ry T),?_⟩
      exact wk_ T [] rfl .nil
    · have T:=an h2 T
      refine wa_ T (g:=?_)
      refine TX.unroll ?_
      repeat (first|(with_reducible first|refine mv ?_|refine TO.nil ?_)|((with_reducible first|apply TO.bin|apply TO.ia|apply TO.ld|apply TO.asg|apply TO.mv);(repeat (focus (show _ = _;first|exact k1 rfl|exact k2 rfl|(simp only [zz,y18,e_iiiii,Nat.reduceAdd,Nat.reduceMul,Nat.reduceLeDiff,Nat.reduceEqDiff,tindexAddr,z5,Int.reduceToNat,Int.reduceLE,Int.reduceLT,Int.cast_ofNat_Int,tload,rowOf,partT,List.getElem?_map,h2]<;>exact rfl)|exact rfl)));(with_reducible apply TO.here))|((with_reducible apply TX.region);(focus (simp only [zl]<;>exact rfl));(focus rfl);(try dsimp only))|((with_reducible apply TX.cond_true);(focus rfl);(focus (first|rfl|(simp only [z1,zn,h2];done))))|((with_reducible apply TX.cond_false);(focus rfl);(focus (first|rfl|(simp only [z1,zn,h2];done))))|fail)
      obtain ⟨v12,h3,hr⟩:=bs hr
      apply TO.cal (wn T) rfl goFn123 (array_counted_c1_b585_spec h3) rfl rfl rfl
      repeat exact sd T
      refine wa_ T (g:=?_)
      rcases ifs hr with ⟨h4,hr⟩|⟨h4,hr⟩
      · have T:=an h4 T
        refine wa_ T (g:=?_)
        cases hr
        refine ⟨.inr rfl,_,(ry T),?_⟩
        exact wk_ T [] rfl .nil
      · have T:=an h4 T
        refine wa_ T (g:=?_)
        refine TX.unroll ?_
        repeat (first|(with_reducible first|refine mv ?_|refine TO.nil ?_)|((with_reducible first|apply TO.bin|apply TO.ia|apply TO.ld|apply TO.asg|apply TO.mv);(repeat (focus (show _ = _;first|exact k1 rfl|exact k2 rfl|(simp only [zz,y18,e_iiiii,Nat.reduceAdd,Nat.reduceMul,Nat.reduceLeDiff,Nat.reduceEqDiff,tindexAddr,z5,Int.reduceToNat,Int.reduceLE,Int.reduceLT,Int.cast_ofNat_Int,tload,rowOf,partT,List.getElem?_map,h2,h4]<;>exact rfl)|exact rfl)));(with_reducible apply TO.here))|((with_reducible apply TX.region);(focus (simp only [zl]<;>exact rfl));(focus rfl);(try dsimp only))|((with_reducible apply TX.cond_true);(focus rfl);(focus (first|rfl|(simp only [z1,zn,h2,h4];done))))|((with_reducible apply TX.cond_false);(focus rfl);(focus (first|rfl|(simp only [z1,zn,h2,h4];done))))|fail)
        obtain ⟨v13,h5,hr⟩:=bs hr
        apply TO.cal (wn T) rfl goFn126 (array_refuse_c1_11f9_spec h5) rfl rfl rfl
        repeat exact sd T
        refine wa_ T (g:=?_)
        rcases ifs hr with ⟨h6,hr⟩|⟨h6,hr⟩
        · have T:=an h6 T
          refine wa_ T (g:=?_)
          cases hr
          refine ⟨.inr rfl,_,(ry T),?_⟩
          exact wk_ T [] rfl .nil
        · have T:=an h6 T
          refine wa_ T (g:=?_)
          refine TX.unroll ?_
          repeat (first|(with_reducible first|refine mv ?_|refine TO.nil ?_)|((with_reducible first|apply TO.bin|apply TO.ia|apply TO.ld|apply TO.asg|apply TO.mv);(repeat (focus (show _ = _;first|exact k1 rfl|exact k2 rfl|(simp only [zz,y18,e_iiiii,Nat.reduceAdd,Nat.reduceMul,Nat.reduceLeDiff,Nat.reduceEqDiff,tindexAddr,z5,Int.reduceToNat,Int.reduceLE,Int.reduceLT,Int.cast_ofNat_Int,tload,rowOf,partT,List.getElem?_map,h2,h4,h6]<;>exact rfl)|exact rfl)));(with_reducible apply TO.here))|((with_reducible apply TX.region);(focus (simp only [zl]<;>exact rfl));(focus rfl);(try dsimp only))|((with_reducible apply TX.cond_true);(focus rfl);(focus (first|rfl|(simp only [z1,zn,h2,h4,h6];done))))|((with_reducible apply TX.cond_false);(focus rfl);(focus (first|rfl|(simp only [z1,zn,h2,h4,h6];done))))|fail)
          obtain ⟨v14,h7,hr⟩:=bs hr
          apply TO.cal (wn T) rfl goFn126 (array_refuse_c1_11f9_spec h7) rfl rfl rfl
          repeat exact sd T
          refine wa_ T (g:=?_)
          rcases ifs hr with ⟨h8,hr⟩|⟨h8,hr⟩
          · have T:=an h8 T
            refine wa_ T (g:=?_)
            cases hr
            refine ⟨.inr rfl,_,(ry T),?_⟩
            exact wk_ T [] rfl .nil
          · have T:=an h8 T
            refine wa_ T (g:=?_)
            refine TX.unroll ?_
            refine wa_ T (g:=?_)
            cases hr
            refine ⟨.inr rfl,_,(ry T),?_⟩
            exact wk_ T [] rfl .nil
  rfl

end Go.Rex

namespace Go.Rex
open Go.Proofs
open Go Go.Rex Go.RowKit
set_option maxRecDepth 100000
set_option maxHeartbeats 200000
theorem array_each_a530_spec {v1 : Int} {v2 : Int} {v3 : Int} {v4 : (List (Int × Int × Int × Int × Int))} {v5 : Int} {v6 : Int} {v7 : Int} {v8 : Int} {v9 : Int} {v10 : Int} {v11 : (List (Int × Int × Int × Int × Int))} {v12 : Int} {v13 : Int} {v14 : Int} (hr : array_each_a530 v1 v2 v3 v4 v5 v6 v7 = some (v8,v9,v10,v11,v12,v13,v14)) : Spec (lim Tryz.prog) 143 [.v (.int .i64 v1),.func 163 [] [.fptr true [.v (.int .i64 v2),.v (.int .i64 v3),.list 5 (v4.map e_iiiii),.v (.int .i64 v5),.v (.int .i64 v6),.v (.int .i64 v7)] 0]] ⟨[.func 168 [] [.fptr true [.v (.int .i64 v8)] 0,.fptr true [.func 163 [] [.fptr true [.v (.int .i64 v9),.v (.int .i64 v10),.list 5 (v11.map e_iiiii),.v (.int .i64 v12),.v (.int .i64 v13),.v (.int .i64 v14)] 0]] 0]],[]⟩:=by
  unfold array_each_a530 at hr
  have T:=@e_iiiii.eq_1
  apply Spec.fn Tryz.func143 rfl
  focus (simp [Tryz.f143]<;>exact rfl)
  focus
    refine wb_ T (g:=?_)
    cases hr
    refine ⟨.inr rfl,_,(ry T),?_⟩
    exact wr [] rfl .nil
  rfl

end Go.Rex

namespace Go.Rex
open Go.Proofs
open Go Go.Rex Go.RowKit
set_option maxRecDepth 100000
set_option maxHeartbeats 200000
def y19:=an @ag129 <| an @ag38 <| an @cs129 <| an @cs38 <| an @fd137_1 <| an @fd40_0 <| an @ok129 <| an @ok38 <| an @st129 <| @zc129
theorem array_heard_wayFrom_spec {v1 : Int} {v2 : Int} {v3 : (List (Int × Int × Int × Int × Int))} {v4 : Int} {v5 : Int} {v6 : Int} {v7 : Int} {v8 : Int} {v9 : Int} {v10 : Int} {v11 : Int} {v12 : Int} {v13 : Int} {v14 : Int} {v15 : Int} {v16 : Int} {v17 : Int} (hr : array_heard_wayFrom v1 v2 v3 v4 v5 v6 v7 v8 v9 v10 v11 = some (v12,v13,v14,v15,v16,v17)) : Spec (lim Tryz.prog) 164 [.agg [.v (.int .i64 v1),.v (.int .i64 v2),.list 5 (v3.map e_iiiii),.v (.int .i64 v4),.v (.int .i64 v5),.v (.int .i64 v6)],.agg [.v (.int .i64 v7),.v (.int .i64 v8),.v (.int .i64 v9),.v (.int .i64 v10),.v (.int .i64 v11)]] ⟨[.agg [.v (.int .i64 v12),.v (.int .i64 v13),.v (.int .i64 v14),.v (.int .i64 v15),.v (.int .i64 v16),.v (.int .i64 v17)]],[]⟩:=by
  unfold array_heard_wayFrom at hr
  have T:=an y19 <| @e_iiiii.eq_1
  apply Spec.fn Tryz.func164 rfl
  focus (simp [Tryz.f164]<;>exact rfl)
  focus
    refine wB T (g:=?_)
    cases hr
    refine ⟨.inr rfl,_,(ry T),?_⟩
    exact wr [] rfl .nil
  rfl

end Go.Rex

namespace Go.Rex
open Go.Proofs
open Go Go.Rex Go.RowKit
set_option maxRecDepth 100000
set_option maxHeartbeats 200000
def y20:=an @ag3 <| an @fd129_0 <| an @fd129_1 <| an @fd38_0 <| an @fd38_1 <| @fd38_2
theorem array_way_square_spec {v1 : Int} {v2 : Int} {v3 : Int} {v4 : Int} {v5 : Int} {v6 : Int} {v7 : Int} (hr : array_way_square v1 v2 v3 v4 v5 v6 = some (v7)) : Spec (lim Tryz.prog) 131 [.agg [.v (.int .i64 v1),.v (.int .i64 v2),.v (.int .i64 v3),.v (.int .i64 v4),.v (.int .i64 v5),.v (.int .i64 v6)]] ⟨[.v (.int .i64 v7)],[]⟩:=by
  unfold array_way_square at hr
  have T:=y20
  apply Spec.fn Tryz.func131 rfl
  focus (simp [Tryz.f131]<;>exact rfl)
  focus
    refine wB T (g:=?_)
    cases hr
    refine ⟨.inr rfl,_,(ry T),?_⟩
    exact wr [] rfl .nil
  rfl

end Go.Rex

namespace Go.Rex
open Go.Proofs
open Go Go.Rex Go.RowKit
set_option maxRecDepth 100000
set_option maxHeartbeats 200000
def y21:=an @ag129 <| an @cs129 <| @ok129
theorem array_way_apart_spec {v1 : Int} {v2 : Int} {v3 : Int} {v4 : Int} {v5 : Int} {v6 : Int} {v7 : Int} (hr : array_way_apart v1 v2 v3 v4 v5 v6 = some (v7)) : Spec (lim Tryz.prog) 77 [.agg [.v (.int .i64 v1),.v (.int .i64 v2),.v (.int .i64 v3),.v (.int .i64 v4),.v (.int .i64 v5),.v (.int .i64 v6)]] ⟨[.v (.int .i64 v7)],[]⟩:=by
  unfold array_way_apart at hr
  have T:=y21
  apply Spec.fn Tryz.func77 rfl
  focus (simp [Tryz.f77]<;>exact rfl)
  focus
    refine wB T (g:=?_)
    obtain ⟨v8,h1,hr⟩:=bs hr
    apply TO.cal (wn T) rfl goFn131 (array_way_square_spec h1) rfl rfl rfl
    repeat exact sd T
    refine wa_ T (g:=?_)
    obtain ⟨⟨v9,v10⟩,h2,hr⟩:=bs hr
    try dsimp only at hr
    apply TO.cal (wn T) rfl goFn70 (array_refuse_spec h2) rfl rfl rfl
    repeat exact sd T
    refine wa_ T (g:=?_)
    obtain ⟨v11,h3,hr⟩:=bs hr
    apply TO.cal (wn T) rfl goFn126 (array_refuse_c1_11f9_spec h3) rfl rfl rfl
    repeat exact sd T
    refine wa_ T (g:=?_)
    cases hr
    refine ⟨.inr rfl,_,(ry T),?_⟩
    exact wr [] rfl .nil
  rfl

end Go.Rex

namespace Go.Rex
open Go.Proofs
open Go Go.Rex Go.RowKit
set_option maxRecDepth 100000
set_option maxHeartbeats 200000
def y22:=an @ag137 <| an @ag22 <| an @ag40 <| an @cs137 <| an @cs40 <| an @fd118_0 <| an @fd137_0 <| an @fd24_2 <| an @ok137 <| an @ok40 <| @so22
theorem array_heard_seated_c1_09d0_spec {v1 : Int} {v2 : Int} {v3 : Int} {v4 : (List (Int × Int × Int × Int × Int))} {v5 : Int} {v6 : Int} {v7 : Int} {v8 : Int} (hr : array_heard_seated_c1_09d0 v1 v2 v3 v4 v5 v6 v7 = some (v8)) : Spec (lim Tryz.prog) 163 [.v (.int .i64 v1),.fptr true [.v (.int .i64 v2),.v (.int .i64 v3),.list 5 (v4.map e_iiiii),.v (.int .i64 v5),.v (.int .i64 v6),.v (.int .i64 v7)] 0] ⟨[.v (.int .i64 v8)],[]⟩:=by
  unfold array_heard_seated_c1_09d0 at hr
  have T:=an y22 <| @e_iiiii.eq_1
  apply Spec.fn Tryz.func163 rfl
  focus (simp [Tryz.f163]<;>exact rfl)
  focus
    refine wA T (g:=?_)
    obtain ⟨⟨v9,v10,v11,v12,v13⟩,h1,hr⟩:=bs hr
    try dsimp only at hr
    have T:=an (gx e_iiiii h1) T
    refine wA T (g:=?_)
    obtain ⟨⟨v14,v15,v16,v17,v18,v19⟩,h2,hr⟩:=bs hr
    try dsimp only at hr
    apply TD.cal (wn T) rfl goFn164 (array_heard_wayFrom_spec h2) rfl rfl rfl
    repeat exact sd T
    refine wa_ T (g:=?_)
    obtain ⟨v20,h3,hr⟩:=bs hr
    apply TD.cal (wn T) rfl goFn77 (array_way_apart_spec h3) rfl rfl rfl
    repeat exact sd T
    refine wa_ T (g:=?_)
    cases hr
    refine ⟨.inr rfl,_,(ry T),?_⟩
    exact wr [] rfl .nil
  rfl

end Go.Rex

namespace Go.Rex
open Go.Proofs
open Go Go.Rex Go.RowKit
set_option maxRecDepth 100000
set_option maxHeartbeats 200000
def y23:=an @ag195 <| an @ag3 <| @wi64_0a1
theorem array_each_c1_d3aa_spec {v1 : Int} {v2 : Int} {v3 : Int} {v4 : (List (Int × Int × Int × Int × Int))} {v5 : Int} {v6 : Int} {v7 : Int} {v8 : Int} (hr : array_each_c1_d3aa v1 v2 v3 v4 v5 v6 v7 = some (v8)) : Spec (lim Tryz.prog) 168 [.fptr true [.v (.int .i64 v1)] 0,.fptr true [.func 163 [] [.fptr true [.v (.int .i64 v2),.v (.int .i64 v3),.list 5 (v4.map e_iiiii),.v (.int .i64 v5),.v (.int .i64 v6),.v (.int .i64 v7)] 0]] 0] ⟨[.v (.int .i64 v8)],[]⟩:=by
  unfold array_each_c1_d3aa at hr
  have T:=an y23 <| @e_iiiii.eq_1
  apply Spec.fn Tryz.func168 rfl
  focus (simp [Tryz.f168]<;>exact rfl)
  focus
    refine wA T (g:=?_)
    obtain ⟨v13,h7,hr⟩:=bs hr
    refine TX.loopE (step:=array_each_c1_d3aa_l1 v1 v2 v3 v4 v5 v6 v7) (x:=0) h7 (fun v9=>⟨.junk :: .fptr true [.func 163 [] [.fptr true [.v (.int .i64 v2),.v (.int .i64 v3),.list 5 (v4.map e_iiiii),.v (.int .i64 v5),.v (.int .i64 v6),.v (.int .i64 v7)] 0]] 0 :: .junk :: .junk :: .junk :: .v (.int .i64 v1) :: .v (.int .i64 v9) :: .junk :: .junk :: .junk :: .junk :: .junk :: .junk :: .junk :: .junk :: .junk :: [],[]⟩) (fun e=>match e with|(.inl v11)=>(.ret,⟨.junk :: .junk :: .v (.int .i64 v11) :: .junk :: .junk :: .junk :: .junk :: .junk :: .junk :: .junk :: .junk :: .junk :: .junk :: .junk :: .junk :: .junk :: [],[]⟩)|(.inr _)=>(.exit 0,⟨.junk :: .junk :: .junk :: .junk :: .junk :: .junk :: .junk :: .junk :: .junk :: .junk :: .junk :: .junk :: .junk :: .junk :: .junk :: .junk :: [],[]⟩)) ?_ ?_ ?_ ?_
    · rintro v9 v0 hr
      dsimp only [array_each_c1_d3aa_l1] at hr
      try dsimp only
      refine wa_ T (g:=?_)
      rcases ifs hr with ⟨h4,hr⟩|⟨h4,hr⟩
      · have T:=an h4 T
        refine wA T (g:=?_)
        obtain ⟨v12,h5,hr⟩:=bs hr
        apply TO.cal (wn T) rfl goFn163 (array_heard_seated_c1_09d0_spec h5) rfl rfl rfl
        repeat exact sd T
        refine wa_ T (g:=?_)
        rcases ifs hr with ⟨h6,hr⟩|⟨h6,hr⟩
        · have T:=an h6 T
          refine wa_ T (g:=?_)
          cases hr
          refine ⟨rfl,?_⟩
          exact wk_ T [] rfl .nil
        · have T:=an h6 T
          refine wa_ T (g:=?_)
          cases hr
          refine ⟨rfl,?_⟩
          exact wk_ T [] rfl .nil
      · have T:=an h4 T
        refine wa_ T (g:=?_)
        cases hr
        refine ⟨rfl,?_⟩
        exact wk_ T [] rfl .nil
    · intro e h;rcases e with _|e<;>cases h
    · try dsimp only
      rcases v13 with v14|_
      · try dsimp only at hr
        try dsimp only
        refine wa_ T (g:=?_)
        cases hr
        refine ⟨.inr rfl,_,(ry T),?_⟩
        exact wr [] rfl .nil
      · try dsimp only at hr
        try dsimp only
        refine wa_ T (g:=?_)
        cases hr
        refine ⟨.inr rfl,_,(ry T),?_⟩
        exact wr [] rfl .nil
    · try dsimp only
      exact wr [] rfl .nil
  rfl

end Go.Rex

namespace Go.Rex
open Go.Proofs
open Go Go.Rex Go.RowKit
set_option maxRecDepth 100000
set_option maxHeartbeats 200000
def y24:=an @ag121 <| an @cs121 <| an @ok121 <| an @so182 <| an @wi64_0a1 <| @wi64_1a1
theorem array_firstError_71a7_spec {v1 : Int} {v2 : (List Int)} {v3 : Int} {v4 : Int} {v5 : Int} {v6 : Int} {v7 : Int} {v8 : (List (Int × Int × Int × Int × Int))} {v9 : Int} {v10 : Int} {v11 : Int} {v12 : Int} (hr : array_firstError_71a7 v1 v2 v3 v4 v5 v6 v7 v8 v9 v10 v11 = some (v12)) : Spec (lim Tryz.prog) 63 [.list 1 [[.func 168 [] [.fptr true [.v (.int .i64 v1)] 0,.fptr true [.func 162 [] [.fptr true [.list 1 (v2.map e_i)] 0,.fptr true [.v (.int .i64 v3)] 0,.fptr true [.v (.int .i64 v4)] 0]] 0]],[.func 168 [] [.fptr true [.v (.int .i64 v5)] 0,.fptr true [.func 163 [] [.fptr true [.v (.int .i64 v6),.v (.int .i64 v7),.list 5 (v8.map e_iiiii),.v (.int .i64 v9),.v (.int .i64 v10),.v (.int .i64 v11)] 0]] 0]]]] ⟨[.v (.int .i64 v12)],[]⟩:=by
  unfold array_firstError_71a7 at hr
  have T:=an y24 <| an @e_i.eq_1 <| @e_iiiii.eq_1
  apply Spec.fn Tryz.func63 rfl
  focus (simp [Tryz.f63]<;>exact rfl)
  focus
    refine wc_ T (g:=?_)
    refine TX.unroll ?_
    repeat (first|(with_reducible first|refine mv ?_|refine TO.nil ?_)|((with_reducible first|apply TO.bin|apply TO.ia|apply TO.ld|apply TO.asg|apply TO.mv);(repeat (focus (show _ = _;first|exact k1 rfl|exact k2 rfl|(simp only [zz,y24,e_i,e_iiiii,Nat.reduceAdd,Nat.reduceMul,Nat.reduceLeDiff,Nat.reduceEqDiff,tindexAddr,z5,Int.reduceToNat,Int.reduceLE,Int.reduceLT,Int.cast_ofNat_Int,tload,rowOf,partT,List.getElem?_map]<;>exact rfl)|exact rfl)));(with_reducible apply TO.here))|((with_reducible apply TX.region);(focus (simp only [zl]<;>exact rfl));(focus rfl);(try dsimp only))|((with_reducible apply TX.cond_true);(focus rfl);(focus (first|rfl|(simp only [z1,zn];done))))|((with_reducible apply TX.cond_false);(focus rfl);(focus (first|rfl|(simp only [z1,zn];done))))|fail)
    obtain ⟨v13,h1,hr⟩:=bs hr
    apply TO.cal (wn T) rfl goFn168 (array_each_c1_6239_spec h1) rfl rfl rfl
    repeat exact sd T
    refine wa_ T (g:=?_)
    rcases ifs hr with ⟨h2,hr⟩|⟨h2,hr⟩
    · have T:=an h2 T
      refine wa_ T (g:=?_)
      cases hr
      refine ⟨.inr rfl,_,(ry T),?_⟩
      exact wk_ T [] rfl .nil
    · have T:=an h2 T
      refine wa_ T (g:=?_)
      refine TX.unroll ?_
      repeat (first|(with_reducible first|refine mv ?_|refine TO.nil ?_)|((with_reducible first|apply TO.bin|apply TO.ia|apply TO.ld|apply TO.asg|apply TO.mv);(repeat (focus (show _ = _;first|exact k1 rfl|exact k2 rfl|(simp only [zz,y24,e_i,e_iiiii,Nat.reduceAdd,Nat.reduceMul,Nat.reduceLeDiff,Nat.reduceEqDiff,tindexAddr,z5,Int.reduceToNat,Int.reduceLE,Int.reduceLT,Int.cast_ofNat_Int,tload,rowOf,partT,List.getElem?_map,h2]<;>exact rfl)|exact rfl)));(with_reducible apply TO.here))|((with_reducible apply TX.region);(focus (simp only [zl]<;>exact rfl));(focus rfl);(try dsimp only))|((with_reducible apply TX.cond_true);(focus rfl);(focus (first|rfl|(simp only [z1,zn,h2];done))))|((with_reducible apply TX.cond_false);(focus rfl);(focus (first|rfl|(simp only [z1,zn,h2];done))))|fail)
      obtain ⟨v14,h3,hr⟩:=bs hr
      apply TO.cal (wn T) rfl goFn168 (array_each_c1_d3aa_spec h3) rfl rfl rfl
      repeat exact sd T
      refine wa_ T (g:=?_)
      rcases ifs hr with ⟨h4,hr⟩|⟨h4,hr⟩
      · have T:=an h4 T
        refine wa_ T (g:=?_)
        cases hr
        refine ⟨.inr rfl,_,(ry T),?_⟩
        exact wk_ T [] rfl .nil
      · have T:=an h4 T
        refine wa_ T (g:=?_)
        refine TX.unroll ?_
        refine wa_ T (g:=?_)
        cases hr
        refine ⟨.inr rfl,_,(ry T),?_⟩
        exact wk_ T [] rfl .nil
  rfl

end Go.Rex

namespace Go.Rex
open Go.Proofs
open Go Go.Rex Go.RowKit
set_option maxRecDepth 100000
set_option maxHeartbeats 200000
def y25:=an @ag22 <| an @ag38 <| an @cs121 <| an @cs38 <| an @fd118_0 <| an @fd137_0 <| an @fd137_1 <| an @fd24_2 <| an @ok38 <| an @so182 <| an @so22 <| @zc121
theorem array_heard_seated_spec {v1 : Int} {v2 : Int} {v3 : (List (Int × Int × Int × Int × Int))} {v4 : Int} {v5 : Int} {v6 : Int} {v7 : Int} (hr : array_heard_seated v1 v2 v3 v4 v5 v6 = some (v7)) : Spec (lim Tryz.prog) 133 [.agg [.v (.int .i64 v1),.v (.int .i64 v2),.list 5 (v3.map e_iiiii),.v (.int .i64 v4),.v (.int .i64 v5),.v (.int .i64 v6)]] ⟨[.v (.int .i64 v7)],[]⟩:=by
  unfold array_heard_seated at hr
  have T:=an y25 <| @e_iiiii.eq_1
  apply Spec.fn Tryz.func133 rfl
  focus (simp [Tryz.f133]<;>exact rfl)
  focus
    refine wB T (g:=?_)
    obtain ⟨⟨v8,v9,v10,v11⟩,h1,hr⟩:=bs hr
    try dsimp only at hr
    apply TD.cal (wn T) rfl goFn67 (array_placed_spec h1) rfl rfl rfl
    repeat exact sd T
    refine wC T (g:=?_)
    obtain ⟨⟨v12,v13,v14,v15,v16,v17,v18⟩,h2,hr⟩:=bs hr
    try dsimp only at hr
    apply TD.cal (wn T) rfl goFn143 (array_each_a530_spec h2) rfl rfl rfl
    repeat exact sd T
    refine we_ T (g:=?_)
    obtain ⟨v19,h3,hr⟩:=bs hr
    apply TD.cal (wn T) rfl goFn63 (array_firstError_71a7_spec h3) rfl rfl rfl
    repeat exact sd T
    refine wa_ T (g:=?_)
    cases hr
    refine ⟨.inr rfl,_,(ry T),?_⟩
    exact wr [] rfl .nil
  rfl

end Go.Rex

namespace Go.Rex
open Go.Proofs
open Go Go.Rex Go.RowKit
set_option maxRecDepth 100000
set_option maxHeartbeats 200000
def y26:=@ag3
theorem array_root_c1_d3d3_spec {v1 : Int} {v2 : Int} {v3 : Bool} (hr : array_root_c1_d3d3 v1 v2 = some (v3)) : Spec (lim Tryz.prog) 167 [.v (.int .i64 v1),.fptr true [.v (.int .i64 v2)] 0] ⟨[.v (.bool v3)],[]⟩:=by
  unfold array_root_c1_d3d3 at hr
  have T:=y26
  apply Spec.fn Tryz.func167 rfl
  focus (simp [Tryz.f167]<;>exact rfl)
  focus
    refine wA T (g:=?_)
    cases hr
    refine ⟨.inr rfl,_,(ry T),?_⟩
    exact wr [] rfl .nil
  rfl

end Go.Rex

namespace Go.Rex
open Go.Proofs
open Go Go.Rex Go.RowKit
set_option maxRecDepth 100000
set_option maxHeartbeats 200000
def y27:=an @un219 <| @un3
theorem sort_Search_2a44_spec {v1 : Int} {v2 : Int} {v3 : Int} (hr : sort_Search_2a44 v1 v2 = some (v3)) : Spec (lim Tryz.prog) 166 [.v (.int .i64 v1),.func 167 [] [.fptr true [.v (.int .i64 v2)] 0]] ⟨[.v (.int .i64 v3)],[]⟩:=by
  unfold sort_Search_2a44 at hr
  have T:=y27
  apply Spec.fn Tryz.func166 rfl
  focus (simp [Tryz.f166]<;>exact rfl)
  focus
    refine wa_ T (g:=?_)
    obtain ⟨v11,h9,hr⟩:=bs hr
    refine TX.loopE (step:=sort_Search_2a44_l1 v2) (x:=(0,v1)) h9 (fun (v4,v5)=>⟨.junk :: .func 167 [] [.fptr true [.v (.int .i64 v2)] 0] :: .junk :: .junk :: .junk :: .v (.int .i64 v4) :: .v (.int .i64 v5) :: .junk :: .junk :: .junk :: .junk :: .junk :: .junk :: .junk :: .junk :: .junk :: .junk :: .junk :: .junk :: .junk :: .junk :: .junk :: .junk :: .junk :: .junk :: .junk :: [],[]⟩) (fun v8=>(.exit 0,⟨.junk :: .junk :: .junk :: .junk :: .junk :: .v (.int .i64 v8) :: .junk :: .junk :: .junk :: .junk :: .junk :: .junk :: .junk :: .junk :: .junk :: .junk :: .junk :: .junk :: .junk :: .junk :: .junk :: .junk :: .junk :: .junk :: .junk :: .junk :: [],[]⟩)) ?_ ?_ ?_ ?_
    · rintro ⟨v4,v5⟩ v0 hr
      dsimp only [sort_Search_2a44_l1] at hr
      try dsimp only
      refine wa_ T (g:=?_)
      rcases ifs hr with ⟨h5,hr⟩|⟨h5,hr⟩
      · have T:=an h5 T
        refine wa_ T (g:=?_)
        apply TO.pop1 (wn T) (cvt_int_int un3 un219 rfl)
        repeat exact sd T
        refine wa_ T (g:=?_)
        obtain ⟨v9,h6,hr⟩:=bs hr
        apply TO.pop1 (wn T) (pop_shift rfl rfl (by decide) (h6))
        repeat exact sd T
        refine wa_ T (g:=?_)
        apply TO.pop1 (wn T) (cvt_int_int un219 un3 rfl)
        repeat exact sd T
        refine wa_ T (g:=?_)
        obtain ⟨v10,h7,hr⟩:=bs hr
        apply TO.cal (wn T) rfl goFn167 (array_root_c1_d3d3_spec h7) rfl rfl rfl
        repeat exact sd T
        refine wa_ T (g:=?_)
        apply TO.pop1 (wn T) (pop_not rfl)
        repeat exact sd T
        refine wa_ T (g:=?_)
        rcases ifs hr with ⟨h8,hr⟩|⟨h8,hr⟩
        · have T:=an h8 T
          refine wa_ T (g:=?_)
          cases hr
          refine ⟨rfl,?_⟩
          exact wk_ T [] rfl .nil
        · have T:=an h8 T
          refine wa_ T (g:=?_)
          cases hr
          refine ⟨rfl,?_⟩
          exact wk_ T [] rfl .nil
      · have T:=an h5 T
        refine wa_ T (g:=?_)
        cases hr
        refine ⟨rfl,?_⟩
        exact wk_ T [] rfl .nil
    · intro e h;cases h
    · try dsimp only
      refine wa_ T (g:=?_)
      cases hr
      refine ⟨.inr rfl,_,(ry T),?_⟩
      exact wr [] rfl .nil
    · try dsimp only
      exact wr [] rfl .nil
  rfl

end Go.Rex

namespace Go.Rex
open Go.Proofs
open Go Go.Rex Go.RowKit
set_option maxRecDepth 100000
set_option maxHeartbeats 200000
def y28:=an @ag3 <| an @ag45 <| an @cs45 <| an @ok45 <| an @st45 <| @zc45
theorem array_root_spec {v1 : Int} {v2 : Int} {v3 : Int} (hr : array_root v1 = some (v2,v3)) : Spec (lim Tryz.prog) 140 [.v (.int .i64 v1)] ⟨[.agg [.v (.int .i64 v2),.v (.int .i64 v3)]],[]⟩:=by
  unfold array_root at hr
  have T:=y28
  apply Spec.fn Tryz.func140 rfl
  focus (simp [Tryz.f140]<;>exact rfl)
  focus
    refine wb_ T (g:=?_)
    obtain ⟨v4,h1,hr⟩:=bs hr
    apply TO.cal (wn T) rfl goFn166 (sort_Search_2a44_spec h1) rfl rfl rfl
    repeat exact sd T
    refine wA T (g:=?_)
    rcases ifs hr with ⟨h2,hr⟩|⟨h2,hr⟩
    · have T:=an h2 T
      refine wa_ T (g:=?_)
      cases hr
      refine ⟨.inr rfl,_,(ry T),?_⟩
      exact wk_ T [] rfl .nil
    · have T:=an h2 T
      refine wa_ T (g:=?_)
      cases hr
      refine ⟨.inr rfl,_,(ry T),?_⟩
      exact wk_ T [] rfl .nil
  rfl

end Go.Rex

namespace Go.Rex
open Go.Proofs
open Go Go.Rex Go.RowKit
set_option maxRecDepth 100000
set_option maxHeartbeats 200000
def y29:=an @ag129 <| an @ag45 <| an @cs129 <| an @cs45 <| an @ok129 <| an @ok45 <| @zc45
theorem array_way_length_spec {v1 : Int} {v2 : Int} {v3 : Int} {v4 : Int} {v5 : Int} {v6 : Int} {v7 : Int} {v8 : Int} (hr : array_way_length v1 v2 v3 v4 v5 v6 = some (v7,v8)) : Spec (lim Tryz.prog) 129 [.agg [.v (.int .i64 v1),.v (.int .i64 v2),.v (.int .i64 v3),.v (.int .i64 v4),.v (.int .i64 v5),.v (.int .i64 v6)]] ⟨[.agg [.v (.int .i64 v7),.v (.int .i64 v8)]],[]⟩:=by
  unfold array_way_length at hr
  have T:=y29
  apply Spec.fn Tryz.func129 rfl
  focus (simp [Tryz.f129]<;>exact rfl)
  focus
    refine wB T (g:=?_)
    obtain ⟨v9,h1,hr⟩:=bs hr
    apply TO.cal (wn T) rfl goFn131 (array_way_square_spec h1) rfl rfl rfl
    repeat exact sd T
    refine wa_ T (g:=?_)
    obtain ⟨⟨v10,v11⟩,h2,hr⟩:=bs hr
    try dsimp only at hr
    apply TO.cal (wn T) rfl goFn140 (array_root_spec h2) rfl rfl rfl
    repeat exact sd T
    refine wa_ T (g:=?_)
    cases hr
    refine ⟨.inr rfl,_,(ry T),?_⟩
    exact wr [] rfl .nil
  rfl

end Go.Rex

namespace Go.Rex
open Go.Proofs
open Go Go.Rex Go.RowKit
set_option maxRecDepth 100000
set_option maxHeartbeats 200000
theorem array_up_spec {v1 : Int} {v2 : Int} {v3 : Int} (hr : array_up v1 v2 = some (v3)) : Spec (lim Tryz.prog) 132 [.v (.int .i64 v1),.v (.int .i64 v2)] ⟨[.v (.int .i64 v3)],[]⟩:=by
  unfold array_up at hr
  have T:=trivial
  apply Spec.fn Tryz.func132 rfl
  focus (simp [Tryz.f132]<;>exact rfl)
  focus
    refine wa_ T (g:=?_)
    by_cases h1 : v2 = 0
    · rw [if_pos h1] at hr
      cases hr
    · rw [if_neg h1] at hr
      have T:=an h1 T
      refine wa_ T (g:=?_)
      cases hr
      refine ⟨.inr rfl,_,(ry T),?_⟩
      exact wr [] rfl .nil
  rfl

end Go.Rex

namespace Go.Rex
open Go.Proofs
open Go Go.Rex Go.RowKit
set_option maxRecDepth 100000
set_option maxHeartbeats 200000
def y30:=an @ag3 <| an @ag45 <| an @cs45 <| an @fd45_0 <| an @fd45_1 <| an @ok45 <| an @st45 <| @zc45
theorem array_scaled_spec {v1 : Int} {v2 : Int} {v3 : Int} {v4 : Int} {v5 : Int} {v6 : Int} (hr : array_scaled v1 v2 v3 v4 = some (v5,v6)) : Spec (lim Tryz.prog) 128 [.agg [.v (.int .i64 v1),.v (.int .i64 v2)],.v (.int .i64 v3),.v (.int .i64 v4)] ⟨[.agg [.v (.int .i64 v5),.v (.int .i64 v6)]],[]⟩:=by
  unfold array_scaled at hr
  have T:=y30
  apply Spec.fn Tryz.func128 rfl
  focus (simp [Tryz.f128]<;>exact rfl)
  focus
    refine wB T (g:=?_)
    by_cases h1 : v4 = 0
    · rw [if_pos h1] at hr
      cases hr
    · rw [if_neg h1] at hr
      have T:=an h1 T
      refine wA T (g:=?_)
      obtain ⟨v7,h2,hr⟩:=bs hr
      apply TD.cal (wn T) rfl goFn132 (array_up_spec h2) rfl rfl rfl
      repeat exact sd T
      refine wa_ T (g:=?_)
      cases hr
      refine ⟨.inr rfl,_,(ry T),?_⟩
      exact wr [] rfl .nil
  rfl

end Go.Rex

namespace Go.Rex
open Go.Proofs
open Go Go.Rex Go.RowKit
set_option maxRecDepth 100000
set_option maxHeartbeats 200000
theorem array_way_numbers_c1_spec {v1 : Int} {v2 : Int} (hr : array_way_numbers_c1 v1 = some (v2)) : Spec (lim Tryz.prog) 130 [.v (.int .i64 v1)] ⟨[.v (.int .i64 v2)],[]⟩:=by
  unfold array_way_numbers_c1 at hr
  have T:=trivial
  apply Spec.fn Tryz.func130 rfl
  focus (simp [Tryz.f130]<;>exact rfl)
  focus
    refine wa_ T (g:=?_)
    cases hr
    refine ⟨.inr rfl,_,(ry T),?_⟩
    exact wr [] rfl .nil
  rfl

end Go.Rex

namespace Go.Rex
open Go.Proofs
open Go Go.Rex Go.RowKit
set_option maxRecDepth 100000
set_option maxHeartbeats 200000
def y31:=an @ag129 <| an @ag3 <| an @ag45 <| an @cs129 <| an @cs45 <| an @fd43_0 <| an @fd43_1 <| an @fd45_0 <| an @fd45_1 <| an @ok129 <| an @ok45 <| an @st45 <| @zc45
theorem array_way_numbers_spec {v1 : Int} {v2 : Int} {v3 : Int} {v4 : Int} {v5 : Int} {v6 : Int} {v7 : Int} {v8 : Int} {v9 : Int} {v10 : Int} (hr : array_way_numbers v1 v2 v3 v4 v5 v6 v7 v8 = some (v9,v10)) : Spec (lim Tryz.prog) 76 [.agg [.v (.int .i64 v1),.v (.int .i64 v2),.v (.int .i64 v3),.v (.int .i64 v4),.v (.int .i64 v5),.v (.int .i64 v6)],.agg [.v (.int .i64 v7),.v (.int .i64 v8)]] ⟨[.agg [.v (.int .i64 v9),.v (.int .i64 v10)]],[]⟩:=by
  unfold array_way_numbers at hr
  have T:=y31
  apply Spec.fn Tryz.func76 rfl
  focus (simp [Tryz.f76]<;>exact rfl)
  focus
    refine wB T (g:=?_)
    obtain ⟨⟨v11,v12⟩,h1,hr⟩:=bs hr
    try dsimp only at hr
    apply TD.cal (wn T) rfl goFn129 (array_way_length_spec h1) rfl rfl rfl
    repeat exact sd T
    refine wA T (g:=?_)
    obtain ⟨⟨v13,v14⟩,h2,hr⟩:=bs hr
    try dsimp only at hr
    apply TD.cal (wn T) rfl goFn128 (array_scaled_spec h2) rfl rfl rfl
    repeat exact sd T
    refine wA T (g:=?_)
    obtain ⟨v15,h3,hr⟩:=bs hr
    apply TD.cal (wn T) rfl goFn130 (array_way_numbers_c1_spec h3) rfl rfl rfl
    repeat exact sd T
    refine wA T (g:=?_)
    obtain ⟨v16,h4,hr⟩:=bs hr
    apply TD.cal (wn T) rfl goFn130 (array_way_numbers_c1_spec h4) rfl rfl rfl
    repeat exact sd T
    refine wa_ T (g:=?_)
    cases hr
    refine ⟨.inr rfl,_,(ry T),?_⟩
    exact wr [] rfl .nil
  rfl

end Go.Rex

namespace Go.Rex
open Go.Proofs
open Go Go.Rex Go.RowKit
set_option maxRecDepth 100000
set_option maxHeartbeats 200000
def y32:=an @ag129 <| an @ag3 <| an @ag45 <| an @cs129 <| an @cs45 <| an @fd45_0 <| an @fd45_1 <| an @ok129 <| an @ok45 <| an @st45 <| @zc45
theorem array_way_strength_spec {v1 : Int} {v2 : Int} {v3 : Int} {v4 : Int} {v5 : Int} {v6 : Int} {v7 : Int} {v8 : Int} (hr : array_way_strength v1 v2 v3 v4 v5 v6 = some (v7,v8)) : Spec (lim Tryz.prog) 78 [.agg [.v (.int .i64 v1),.v (.int .i64 v2),.v (.int .i64 v3),.v (.int .i64 v4),.v (.int .i64 v5),.v (.int .i64 v6)]] ⟨[.agg [.v (.int .i64 v7),.v (.int .i64 v8)]],[]⟩:=by
  unfold array_way_strength at hr
  have T:=y32
  apply Spec.fn Tryz.func78 rfl
  focus (simp [Tryz.f78]<;>exact rfl)
  focus
    refine wB T (g:=?_)
    obtain ⟨⟨v9,v10⟩,h1,hr⟩:=bs hr
    try dsimp only at hr
    apply TO.cal (wn T) rfl goFn129 (array_way_length_spec h1) rfl rfl rfl
    repeat exact sd T
    refine wA T (g:=?_)
    by_cases h2 : v10 = 0
    · rw [if_pos h2] at hr
      cases hr
    · rw [if_neg h2] at hr
      have T:=an h2 T
      refine wA T (g:=?_)
      obtain ⟨v11,h3,hr⟩:=bs hr
      apply TD.cal (wn T) rfl goFn132 (array_up_spec h3) rfl rfl rfl
      repeat exact sd T
      refine wa_ T (g:=?_)
      cases hr
      refine ⟨.inr rfl,_,(ry T),?_⟩
      exact wr [] rfl .nil
  rfl

end Go.Rex

namespace Go.Rex
open Go.Proofs
open Go Go.Rex Go.RowKit
set_option maxRecDepth 100000
set_option maxHeartbeats 200000
def y33:=an @ag118 <| an @ag129 <| an @ag137 <| an @ag22 <| an @ag40 <| an @by190 <| an @cs118 <| an @cs129 <| an @cs137 <| an @cs190 <| an @cs40 <| an @fd118_0 <| an @fd137_0 <| an @fd24_2 <| an @ni187 <| an @ok118 <| an @ok129 <| an @ok137 <| an @ok40 <| an @so187 <| an @so22 <| an @st190 <| an @zc129 <| an @zc190 <| an @zc40 <| @wi64_0a1
theorem array_heard_parts_spec {v1 : Int} {v2 : Int} {v3 : (List (Int × Int × Int × Int × Int))} {v4 : Int} {v5 : Int} {v6 : Int} {v7 : (List (Int × Int × Int × Int × Int × Int × Int × Int × Int))} (hr : array_heard_parts v1 v2 v3 v4 v5 v6 = some (v7)) : Spec (lim Tryz.prog) 134 [.agg [.v (.int .i64 v1),.v (.int .i64 v2),.list 5 (v3.map e_iiiii),.v (.int .i64 v4),.v (.int .i64 v5),.v (.int .i64 v6)]] ⟨[.lsl 0 0 v7.length],[.rows 9 (v7.map e_iiiiiiiii)]⟩:=by
  unfold array_heard_parts at hr
  have T:=an y33 <| an @e_iiiii.eq_1 <| @e_iiiiiiiii.eq_1
  apply Spec.fn Tryz.func134 rfl
  focus (simp [Tryz.f134]<;>exact rfl)
  focus
    refine wD T (g:=?_)
    apply TX.vt (α:=(Int × Int × Int × Int × Int × Int × Int × Int × Int)) e_iiiiiiiii 3 9 rfl
    repeat exact sd T
    with_reducible apply TX.here
    refine wa_ T (g:=?_)
    obtain ⟨v47,h15,hr⟩:=bs hr
    refine TX.loopE (step:=array_heard_parts_l1 v1 v2 v3 v4 v5 v6) (x:=(([] : List (Int × Int × Int × Int × Int × Int × Int × Int × Int)),0)) h15 (fun (v8,v9)=>⟨.junk :: .fptr true [.v (.int .i64 v1),.v (.int .i64 v2),.list 5 (v3.map e_iiiii),.v (.int .i64 v4),.v (.int .i64 v5),.v (.int .i64 v6)] 0 :: .junk :: .lsl 0 0 v8.length :: .junk :: .junk :: .junk :: .junk :: .junk :: .junk :: .list 5 (v3.map e_iiiii) :: .v (.int .i64 (v3.length : Int)) :: .v (.int .i64 v9) :: .junk :: .junk :: .junk :: .junk :: .junk :: .junk :: .junk :: .junk :: .junk :: .junk :: .junk :: .junk :: .junk :: .junk :: .junk :: .junk :: .junk :: .junk :: .junk :: .junk :: [],[.rows 9 (v8.map e_iiiiiiiii)]⟩) (fun v28=>(.exit 0,⟨.junk :: .junk :: .junk :: .lsl 0 0 v28.length :: .junk :: .junk :: .junk :: .junk :: .junk :: .junk :: .junk :: .junk :: .junk :: .junk :: .junk :: .junk :: .junk :: .junk :: .junk :: .junk :: .junk :: .junk :: .junk :: .junk :: .junk :: .junk :: .junk :: .junk :: .junk :: .junk :: .junk :: .junk :: .junk :: [],[.rows 9 (v28.map e_iiiiiiiii)]⟩)) ?_ ?_ ?_ ?_
    · rintro ⟨v8,v9⟩ v0 hr
      dsimp only [array_heard_parts_l1] at hr
      try dsimp only
      refine wa_ T (g:=?_)
      rcases ifs hr with ⟨h8,hr⟩|⟨h8,hr⟩
      · have T:=an h8 T
        refine wa_ T (g:=?_)
        obtain ⟨⟨v29,v30,v31,v32,v33⟩,h9,hr⟩:=bs hr
        try dsimp only at hr
        have h9m:=tidx_map (f:=e_iiiii) h9
        have h9l:=getI_lt h9
        try simp only [List.length_set] at h9l
        have h9a:=getI_at h9
        have T:=an h9m T
        have T:=an h9l T
        have T:=an h9a T
        refine wA T (g:=?_)
        obtain ⟨⟨v34,v35,v36,v37,v38,v39⟩,h10,hr⟩:=bs hr
        try dsimp only at hr
        apply TO.cal (wn T) rfl goFn164 (array_heard_wayFrom_spec h10) rfl rfl rfl
        repeat exact sd T
        refine wA T (g:=?_)
        obtain ⟨⟨v40,v41⟩,h11,hr⟩:=bs hr
        try dsimp only at hr
        apply TD.cal (wn T) rfl goFn65 (array_rig_sound_spec h11) rfl rfl rfl
        repeat exact sd T
        refine wa_ T (g:=?_)
        obtain ⟨⟨v42,v43⟩,h12,hr⟩:=bs hr
        try dsimp only at hr
        apply TD.cal (wn T) rfl goFn76 (array_way_numbers_spec h12) rfl rfl rfl
        repeat exact sd T
        refine wA T (g:=?_)
        obtain ⟨⟨v44,v45⟩,h13,hr⟩:=bs hr
        try dsimp only at hr
        apply TD.cal (wn T) rfl goFn78 (array_way_strength_spec h13) rfl rfl rfl
        repeat exact sd T
        refine wa_ T (g:=?_)
        apply TD.bm e_iiiiiiiii ([(v29,v30,v31,v32,v33,v42,v43,v44,v45)] : List (Int × Int × Int × Int × Int × Int × Int × Int × Int)) (wn T) rfl (by simp only [zz,y33,e_iiiii,e_iiiiiiiii,Nat.reduceAdd,Nat.reduceMul,Nat.reduceLeDiff,Nat.reduceEqDiff,tslice,tparts,h8,h9m,h9l,h9a];exact rfl) rfl
        repeat exact sd T
        refine wa_ T (g:=?_)
        obtain ⟨v46,h14,hr⟩:=bs hr
        apply TD.ap (f:=e_iiiiiiiii) (xs:=v8) (ys:=([(v29,v30,v31,v32,v33,v42,v43,v44,v45)] : List (Int × Int × Int × Int × Int × Int × Int × Int × Int))) (wn T) rfl rfl (by first|rfl|simp only [List.length_set]) rfl rfl so187 ni187 zc190 rfl (by rw [by190];exact h14) (fun _=>⟨rfl,rfl,rfl⟩) rfl
        repeat exact sd T
        refine wa_ T (g:=?_)
        cases hr
        refine ⟨rfl,?_⟩
        exact wk_ T [some 0] rfl (.rows .nil rfl rfl)
      · have T:=an h8 T
        refine wa_ T (g:=?_)
        cases hr
        refine ⟨rfl,?_⟩
        exact wk_ T [some 0] rfl (.rows .nil rfl rfl)
    · intro e h;cases h
    · try dsimp only
      refine wa_ T (g:=?_)
      cases hr
      refine ⟨.inr rfl,_,(ry T),?_⟩
      exact wr [some 0] rfl (.rows .nil rfl rfl)
    · try dsimp only
      exact wr [some 0] rfl (.rows .nil rfl rfl)
  rfl

end Go.Rex

namespace Go.Rex
open Go.Proofs
open Go Go.Rex Go.RowKit
set_option maxRecDepth 100000
set_option maxHeartbeats 1000000
def y34:=an @ag137 <| an @ag190 <| an @ag3 <| an @by3 <| an @cs137 <| an @cs190 <| an @cs3 <| an @fd190_2 <| an @fd45_0 <| an @ni87 <| an @ok137 <| an @ok190 <| an @so187 <| an @so87 <| an @zc190 <| an @zc3 <| @wi64_0a1
theorem array_heard_row_spec {v1 : Int} {v2 : Int} {v3 : (List (Int × Int × Int × Int × Int))} {v4 : Int} {v5 : Int} {v6 : Int} {v7 : Int} {v8 : (List Int)} {v9 : Int} (hr : array_heard_row v1 v2 v3 v4 v5 v6 v7 = some (v8,v9)) : Spec (lim Tryz.prog) 101 [.agg [.v (.int .i64 v1),.v (.int .i64 v2),.list 5 (v3.map e_iiiii),.v (.int .i64 v4),.v (.int .i64 v5),.v (.int .i64 v6)],.v (.int .i64 v7)] ⟨[.tuple [.lsl 0 0 v8.length,.v (.int .i64 v9)]],[.rows 1 (v8.map e_i)]⟩:=by
  unfold array_heard_row at hr
  have T:=an y34 <| an @e_i.eq_1 <| an @e_iiiii.eq_1 <| @e_iiiiiiiii.eq_1
  apply Spec.fn Tryz.func101 rfl
  focus (simp [Tryz.f101]<;>exact rfl)
  focus
    refine wB T (g:=?_)
    obtain ⟨v10,h1,hr⟩:=bs hr
    apply TO.cal (wn T) rfl goFn133 (array_heard_seated_spec h1) rfl rfl rfl
    repeat exact sd T
    refine wa_ T (g:=?_)
    rcases ifs hr with ⟨h2,hr⟩|⟨h2,hr⟩
    · have T:=an h2 T
      refine wa_ T (g:=?_)
      cases hr
      refine ⟨.inr rfl,_,(ry T),?_⟩
      exact wk_ T [none] rfl (.virt .nil)
    · have T:=an h2 T
      refine wA T (g:=?_)
      obtain ⟨v11,h3,hr⟩:=bs hr
      apply TO.cal (wn T) rfl goFn134 (array_heard_parts_spec h3) rfl rfl rfl
      repeat exact sd T
      refine wc_ T (g:=?_)
      apply TX.vt (α:=Int) e_i 7 1 rfl
      repeat exact sd T
      with_reducible apply TX.here
      refine wa_ T (g:=?_)
      obtain ⟨v35,h14,hr⟩:=bs hr
      refine TX.loopE (step:=array_heard_row_l1 v7 v11) (x:=(([] : List Int),0)) h14 (fun (v12,v13)=>⟨.junk :: .v (.int .i64 v7) :: .junk :: .junk :: .junk :: .junk :: .junk :: .lsl 0 0 v12.length :: .junk :: .junk :: .junk :: .junk :: .junk :: .junk :: .junk :: .junk :: .junk :: .junk :: .lsl 1 0 v11.length :: .v (.int .i64 (v11.length : Int)) :: .v (.int .i64 v13) :: .junk :: .junk :: .junk :: .junk :: .junk :: .junk :: .junk :: .junk :: .junk :: .junk :: .junk :: .junk :: .junk :: .junk :: .junk :: .junk :: .junk :: .junk :: .junk :: .junk :: [],[.rows 1 (v12.map e_i),.rows 9 (v11.map e_iiiiiiiii)]⟩) (fun e=>match e with|(.inl _)=>(.ret,⟨.junk :: .junk :: .junk :: .junk :: .v (.slice none 0 0) :: .v (.int .i64 8) :: .junk :: .junk :: .junk :: .junk :: .junk :: .junk :: .junk :: .junk :: .junk :: .junk :: .junk :: .junk :: .junk :: .junk :: .junk :: .junk :: .junk :: .junk :: .junk :: .junk :: .junk :: .junk :: .junk :: .junk :: .junk :: .junk :: .junk :: .junk :: .junk :: .junk :: .junk :: .junk :: .junk :: .junk :: .junk :: [],[]⟩)|(.inr v24)=>(.exit 0,⟨.junk :: .junk :: .junk :: .junk :: .junk :: .junk :: .junk :: .lsl 0 0 v24.length :: .junk :: .junk :: .junk :: .junk :: .junk :: .junk :: .junk :: .junk :: .junk :: .junk :: .junk :: .junk :: .junk :: .junk :: .junk :: .junk :: .junk :: .junk :: .junk :: .junk :: .junk :: .junk :: .junk :: .junk :: .junk :: .junk :: .junk :: .junk :: .junk :: .junk :: .junk :: .junk :: .junk :: [],[.rows 1 (v24.map e_i)]⟩)) ?_ ?_ ?_ ?_
      · rintro ⟨v12,v13⟩ v0 hr
        dsimp only [array_heard_row_l1] at hr
        try dsimp only
        refine wa_ T (g:=?_)
        rcases ifs hr with ⟨h9,hr⟩|⟨h9,hr⟩
        · have T:=an h9 T
          refine wa_ T (g:=?_)
          obtain ⟨⟨v25,v26,v27,v28,v29,v30,v31,v32,v33⟩,h10,hr⟩:=bs hr
          try dsimp only at hr
          have h10m:=tidx_map (f:=e_iiiiiiiii) h10
          have h10l:=getI_lt h10
          try simp only [List.length_set] at h10l
          have h10a:=getI_at h10
          have T:=an h10m T
          have T:=an h10l T
          have T:=an h10a T
          refine wA T (g:=?_)
          by_cases h11 : v7 = 0
          · rw [if_pos h11] at hr
            cases hr
          · rw [if_neg h11] at hr
            have T:=an h11 T
            refine wa_ T (g:=?_)
            rcases ifs hr with ⟨h12,hr⟩|⟨h12,hr⟩
            · have T:=an h12 T
              refine wa_ T (g:=?_)
              cases hr
              refine ⟨rfl,?_⟩
              exact wk_ T [] rfl .nil
            · have T:=an h12 T
              refine wa_ T (g:=?_)
              apply TO.bm e_i ([(IntKind.i64.wrap ((IntKind.i64.wrap ((IntKind.i64.wrap (1000 * v32)) * (IntKind.i64.wrap (1000 * v32)))).tdiv v7))] : List Int) (wn T) rfl (by simp only [zz,y34,e_i,e_iiiii,e_iiiiiiiii,Nat.reduceAdd,Nat.reduceMul,Nat.reduceLeDiff,Nat.reduceEqDiff,tslice,tparts,h2,h9,h10m,h10l,h10a,h11,h12];exact rfl) rfl
              repeat exact sd T
              refine wa_ T (g:=?_)
              obtain ⟨v34,h13,hr⟩:=bs hr
              apply TO.ap (f:=e_i) (xs:=v12) (ys:=([(IntKind.i64.wrap ((IntKind.i64.wrap ((IntKind.i64.wrap (1000 * v32)) * (IntKind.i64.wrap (1000 * v32)))).tdiv v7))] : List Int)) (wn T) rfl rfl (by first|rfl|simp only [List.length_set]) rfl rfl so87 ni87 zc3 rfl (by rw [by3];exact h13) (fun _=>⟨rfl,rfl,rfl⟩)
              repeat exact sd T
              refine wa_ T (g:=?_)
              cases hr
              refine ⟨rfl,?_⟩
              exact wk_ T [some 0,some 1] rfl (.rows (.rows .nil rfl rfl) rfl rfl)
        · have T:=an h9 T
          refine wa_ T (g:=?_)
          cases hr
          refine ⟨rfl,?_⟩
          exact wk_ T [some 0] rfl (.rows .nil rfl rfl)
      · intro e h;rcases e with _|e<;>cases h
      · try dsimp only
        rcases v35 with _|v36
        · try dsimp only at hr
          try dsimp only
          refine wa_ T (g:=?_)
          cases hr
          refine ⟨.inr rfl,_,(ry T),?_⟩
          exact wk_ T [none] rfl (.virt .nil)
        · try dsimp only at hr
          try dsimp only
          refine wa_ T (g:=?_)
          cases hr
          refine ⟨.inr rfl,_,(ry T),?_⟩
          exact wk_ T [some 0] rfl (.rows .nil rfl rfl)
      · try dsimp only
        exact wk_ T [some 1,some 0] rfl (.rows (.rows .nil rfl rfl) rfl rfl)
  rfl

end Go.Rex

namespace Go.Rex
open Go.Proofs
open Go Go.Rex Go.RowKit
set_option maxRecDepth 100000
set_option maxHeartbeats 1000000
def y35:=an @ag118 <| an @ag22 <| an @ag24 <| an @ag38 <| an @by87 <| an @cs118 <| an @cs121 <| an @cs24 <| an @cs38 <| an @cs87 <| an @fd118_0 <| an @fd24_2 <| an @ni77 <| an @ok118 <| an @ok24 <| an @ok38 <| an @so182 <| an @so22 <| an @so76 <| an @so77 <| an @st118 <| an @st137 <| an @zc118 <| an @zc121 <| an @zc137 <| an @zc38 <| an @zc87 <| @wi64_0a1
theorem array_TableOf_spec {v1 : Int} {v2 : Int} {v3 : (List (Int × Int × Int × Int × Int))} {v4 : (List (Int × Int × Int))} {v5 : Int} {v6 : (List (List Int))} {v7 : Int} (hr : array_TableOf v1 v2 v3 v4 v5 = some (v6,v7)) : Spec (lim Tryz.prog) 43 [.agg [.v (.int .i64 v1),.v (.int .i64 v2),.list 5 (v3.map e_iiiii)],.list 3 (v4.map e_iii),.v (.int .i64 v5)] ⟨[.tuple [.lsl 0 0 v6.length,.v (.int .i64 v7)]],[.rows 1 (v6.map e_Li_)]⟩:=by
  unfold array_TableOf at hr
  have T:=an y35 <| an @e_Li_.eq_1 <| an @e_i.eq_1 <| an @e_iii.eq_1 <| @e_iiiii.eq_1
  apply Spec.fn Tryz.func43 rfl
  focus (simp [Tryz.f43]<;>exact rfl)
  focus
    refine wD T (g:=?_)
    obtain ⟨⟨v8,v9⟩,h1,hr⟩:=bs hr
    try dsimp only at hr
    apply TD.cal (wn T) rfl goFn66 (array_counted_spec h1) rfl rfl rfl
    repeat exact sd T
    refine wC T (g:=?_)
    obtain ⟨⟨v10,v11⟩,h2,hr⟩:=bs hr
    try dsimp only at hr
    apply TD.cal (wn T) rfl goFn70 (array_refuse_spec h2) rfl rfl rfl
    repeat exact sd T
    refine wa_ T (g:=?_)
    obtain ⟨⟨v12,v13⟩,h3,hr⟩:=bs hr
    try dsimp only at hr
    apply TD.cal (wn T) rfl goFn100 (array_within_spec h3) rfl rfl rfl
    repeat exact sd T
    refine we_ T (g:=?_)
    obtain ⟨v14,h4,hr⟩:=bs hr
    apply TD.cal (wn T) rfl goFn63 (array_firstError_53a2_spec h4) rfl rfl rfl
    repeat exact sd T
    refine wa_ T (g:=?_)
    rcases ifs hr with ⟨h5,hr⟩|⟨h5,hr⟩
    · have T:=an h5 T
      refine wa_ T (g:=?_)
      cases hr
      refine ⟨.inr rfl,_,(ry T),?_⟩
      exact wk_ T [none] rfl (.virt .nil)
    · have T:=an h5 T
      refine wc_ T (g:=?_)
      apply TX.vt (α:=(List Int)) e_Li_ 10 1 rfl
      repeat exact sd T
      with_reducible apply TX.here
      refine wa_ T (g:=?_)
      obtain ⟨v31,h16,hr⟩:=bs hr
      refine TX.loopE (step:=array_TableOf_l1 v1 v2 v3 v4 v5) (x:=(([] : List (List Int)),0)) h16 (fun (v15,v16)=>⟨.junk :: .junk :: .v (.int .i64 v5) :: .junk :: .junk :: .junk :: .junk :: .junk :: .lptr 0 0 0 :: .junk :: .lsl 1 0 v15.length :: .junk :: .junk :: .junk :: .junk :: .junk :: .junk :: .junk :: .junk :: .junk :: .junk :: .junk :: .junk :: .junk :: .junk :: .junk :: .junk :: .junk :: .junk :: .junk :: .junk :: .junk :: .junk :: .junk :: .junk :: .list 3 (v4.map e_iii) :: .v (.int .i64 (v4.length : Int)) :: .v (.int .i64 v16) :: .junk :: .junk :: .junk :: .junk :: .junk :: .junk :: .junk :: .junk :: .junk :: .junk :: .junk :: .junk :: .junk :: .junk :: .junk :: .junk :: .junk :: .junk :: .junk :: .junk :: [],[.var [.v (.int .i64 v1),.v (.int .i64 v2),.list 5 (v3.map e_iiiii)],.rows 1 (v15.map e_Li_)]⟩) (fun e=>match e with|(.inl v23)=>(.ret,⟨.junk :: .junk :: .junk :: .junk :: .junk :: .junk :: .v (.slice none 0 0) :: .v (.int .i64 v23) :: .junk :: .junk :: .junk :: .junk :: .junk :: .junk :: .junk :: .junk :: .junk :: .junk :: .junk :: .junk :: .junk :: .junk :: .junk :: .junk :: .junk :: .junk :: .junk :: .junk :: .junk :: .junk :: .junk :: .junk :: .junk :: .junk :: .junk :: .junk :: .junk :: .junk :: .junk :: .junk :: .junk :: .junk :: .junk :: .junk :: .junk :: .junk :: .junk :: .junk :: .junk :: .junk :: .junk :: .junk :: .junk :: .junk :: .junk :: .junk :: .junk :: .junk :: [],[]⟩)|(.inr v24)=>(.exit 0,⟨.junk :: .junk :: .junk :: .junk :: .junk :: .junk :: .junk :: .junk :: .junk :: .junk :: .lsl 0 0 v24.length :: .junk :: .junk :: .junk :: .junk :: .junk :: .junk :: .junk :: .junk :: .junk :: .junk :: .junk :: .junk :: .junk :: .junk :: .junk :: .junk :: .junk :: .junk :: .junk :: .junk :: .junk :: .junk :: .junk :: .junk :: .junk :: .junk :: .junk :: .junk :: .junk :: .junk :: .junk :: .junk :: .junk :: .junk :: .junk :: .junk :: .junk :: .junk :: .junk :: .junk :: .junk :: .junk :: .junk :: .junk :: .junk :: .junk :: .junk :: [],[.rows 1 (v24.map e_Li_)]⟩)) ?_ ?_ ?_ ?_
      · rintro ⟨v15,v16⟩ v0 hr
        dsimp only [array_TableOf_l1] at hr
        try dsimp only
        refine wa_ T (g:=?_)
        rcases ifs hr with ⟨h11,hr⟩|⟨h11,hr⟩
        · have T:=an h11 T
          refine wa_ T (g:=?_)
          obtain ⟨⟨v25,v26,v27⟩,h12,hr⟩:=bs hr
          try dsimp only at hr
          have h12m:=tidx_map (f:=e_iii) h12
          have h12l:=getI_lt h12
          try simp only [List.length_set] at h12l
          have h12a:=getI_at h12
          have T:=an h12m T
          have T:=an h12l T
          have T:=an h12a T
          refine wA T (g:=?_)
          obtain ⟨⟨v28,v29⟩,h13,hr⟩:=bs hr
          try dsimp only at hr
          apply TO.cal (wn T) rfl goFn101 (array_heard_row_spec h13) rfl rfl rfl
          repeat exact sd T
          refine wa_ T (g:=?_)
          rcases ifs hr with ⟨h14,hr⟩|⟨h14,hr⟩
          · have T:=an h14 T
            refine wa_ T (g:=?_)
            cases hr
            refine ⟨rfl,?_⟩
            exact wk_ T [] rfl .nil
          · have T:=an h14 T
            refine wa_ T (g:=?_)
            apply TO.frz 3 rfl rfl
            repeat exact sd T
            refine wa_ T (g:=?_)
            apply TO.bm e_Li_ ([v28] : List (List Int)) (wn T) rfl (by simp only [zz,y35,e_Li_,e_i,e_iii,e_iiiii,Nat.reduceAdd,Nat.reduceMul,Nat.reduceLeDiff,Nat.reduceEqDiff,tslice,tparts,h5,h11,h12m,h12l,h12a,h14];exact rfl) rfl
            repeat exact sd T
            refine wa_ T (g:=?_)
            obtain ⟨v30,h15,hr⟩:=bs hr
            apply TO.ap (f:=e_Li_) (xs:=v15) (ys:=([v28] : List (List Int))) (wn T) rfl rfl (by first|rfl|simp only [List.length_set]) rfl rfl so77 ni77 zc87 rfl (by rw [by87];exact h15) (fun _=>⟨rfl,rfl,rfl⟩)
            repeat exact sd T
            refine wa_ T (g:=?_)
            cases hr
            refine ⟨rfl,?_⟩
            exact wk_ T [some 0,some 1] rfl (rv (.rows .nil rfl rfl) rfl)
        · have T:=an h11 T
          refine wa_ T (g:=?_)
          cases hr
          refine ⟨rfl,?_⟩
          exact wk_ T [some 1] rfl (.rows .nil rfl rfl)
      · intro e h;rcases e with _|e<;>cases h
      · try dsimp only
        rcases v31 with v32|v33
        · try dsimp only at hr
          try dsimp only
          refine wa_ T (g:=?_)
          cases hr
          refine ⟨.inr rfl,_,(ry T),?_⟩
          exact wk_ T [none] rfl (.virt .nil)
        · try dsimp only at hr
          try dsimp only
          refine wa_ T (g:=?_)
          cases hr
          refine ⟨.inr rfl,_,(ry T),?_⟩
          exact wk_ T [some 0] rfl (.rows .nil rfl rfl)
      · try dsimp only
        exact wk_ T [some 0,some 1] rfl (rv (.rows .nil rfl rfl) rfl)
  rfl

end Go.Rex

namespace Go.Rex
open Go.Proofs
open Go Go.Rex Go.RowKit
set_option maxRecDepth 100000
set_option maxHeartbeats 200000
def y36:=an @ag3 <| an @ag43 <| an @cs43 <| an @fd24_0 <| an @fd24_1 <| an @ok43 <| an @st43 <| @zc43
theorem ref07_Sound_spec {v1 : Int} {v2 : Int} {v3 : (List (Int × Int × Int × Int × Int))} {v4 : Int} {v5 : Int} (hr : ref07_Sound v1 v2 v3 = some (v4,v5)) : Spec (lim Tryz.prog) 72 [.agg [.v (.int .i64 v1),.v (.int .i64 v2),.list 5 (v3.map e_iiiii)]] ⟨[.agg [.v (.int .i64 v4),.v (.int .i64 v5)]],[]⟩:=by
  unfold ref07_Sound at hr
  have T:=an y36 <| @e_iiiii.eq_1
  apply Spec.fn Tryz.func72 rfl
  focus (simp [Tryz.f72]<;>exact rfl)
  focus
    refine wB T (g:=?_)
    cases hr
    refine ⟨.inr rfl,_,(ry T),?_⟩
    exact wr [] rfl .nil
  rfl

end Go.Rex

namespace Go.Rex
open Go.Proofs
open Go Go.Rex Go.RowKit
set_option maxRecDepth 100000
set_option maxHeartbeats 200000
theorem base_Within_spec {v1 : Int} {v2 : Int} {v3 : Int} {v4 : Bool} (hr : base_Within v1 v2 v3 = some (v4)) : Spec (lim Tryz.prog) 17 [.v (.int .i64 v1),.v (.int .i64 v2),.v (.int .i64 v3)] ⟨[.v (.bool v4)],[]⟩:=by
  unfold base_Within at hr
  have T:=trivial
  apply Spec.fn Tryz.func17 rfl
  focus (simp [Tryz.f17]<;>exact rfl)
  focus
    refine wa_ T (g:=?_)
    rcases ifs hr with ⟨h1,hr⟩|⟨h1,hr⟩
    · have T:=an h1 T
      refine wa_ T (g:=?_)
      cases hr
      refine ⟨.inr rfl,_,(ry T),?_⟩
      exact wk_ T [] rfl .nil
    · have T:=an h1 T
      refine wa_ T (g:=?_)
      cases hr
      refine ⟨.inr rfl,_,(ry T),?_⟩
      exact wk_ T [] rfl .nil
  rfl

end Go.Rex

namespace Go.Rex
open Go.Proofs
open Go Go.Rex Go.RowKit
set_option maxRecDepth 100000
set_option maxHeartbeats 200000
def y37:=an @ag3 <| an @fd43_0 <| @fd43_1
theorem ref07_SoundErr_spec {v1 : Int} {v2 : Int} {v3 : Int} (hr : ref07_SoundErr v1 v2 = some (v3)) : Spec (lim Tryz.prog) 25 [.agg [.v (.int .i64 v1),.v (.int .i64 v2)]] ⟨[.v (.int .i64 v3)],[]⟩:=by
  unfold ref07_SoundErr at hr
  have T:=y37
  apply Spec.fn Tryz.func25 rfl
  focus (simp [Tryz.f25]<;>exact rfl)
  focus
    refine wB T (g:=?_)
    obtain ⟨v4,h1,hr⟩:=bs hr
    apply TO.cal (wn T) rfl goFn17 (base_Within_spec h1) rfl rfl rfl
    repeat exact sd T
    refine wa_ T (g:=?_)
    apply TO.pop1 (wn T) (pop_not rfl)
    repeat exact sd T
    refine wa_ T (g:=?_)
    rcases ifs hr with ⟨h2,hr⟩|⟨h2,hr⟩
    · have T:=an h2 T
      refine wA T (g:=?_)
      obtain ⟨v5,h3,hr⟩:=bs hr
      apply TO.cal (wn T) rfl goFn17 (base_Within_spec h3) rfl rfl rfl
      repeat exact sd T
      refine wa_ T (g:=?_)
      apply TO.pop1 (wn T) (pop_not rfl)
      repeat exact sd T
      refine wa_ T (g:=?_)
      rcases ifs hr with ⟨h4,hr⟩|⟨h4,hr⟩
      · have T:=an h4 T
        refine wa_ T (g:=?_)
        cases hr
        refine ⟨.inr rfl,_,(ry T),?_⟩
        exact wk_ T [] rfl .nil
      · have T:=an h4 T
        refine wa_ T (g:=?_)
        cases hr
        refine ⟨.inr rfl,_,(ry T),?_⟩
        exact wk_ T [] rfl .nil
    · have T:=an h2 T
      refine wa_ T (g:=?_)
      cases hr
      refine ⟨.inr rfl,_,(ry T),?_⟩
      exact wk_ T [] rfl .nil
  rfl

end Go.Rex

namespace Go.Rex
open Go.Proofs
open Go Go.Rex Go.RowKit
set_option maxRecDepth 100000
set_option maxHeartbeats 200000
def y38:=an @ag3 <| an @fd38_0 <| an @fd38_1 <| @fd38_2
theorem ref07_PlaceErr_spec {v1 : Int} {v2 : Int} {v3 : Int} {v4 : Int} (hr : ref07_PlaceErr v1 v2 v3 = some (v4)) : Spec (lim Tryz.prog) 22 [.agg [.v (.int .i64 v1),.v (.int .i64 v2),.v (.int .i64 v3)]] ⟨[.v (.int .i64 v4)],[]⟩:=by
  unfold ref07_PlaceErr at hr
  have T:=y38
  apply Spec.fn Tryz.func22 rfl
  focus (simp [Tryz.f22]<;>exact rfl)
  focus
    refine wB T (g:=?_)
    obtain ⟨v5,h1,hr⟩:=bs hr
    apply TO.cal (wn T) rfl goFn17 (base_Within_spec h1) rfl rfl rfl
    repeat exact sd T
    refine wa_ T (g:=?_)
    apply TO.pop1 (wn T) (pop_not rfl)
    repeat exact sd T
    refine wa_ T (g:=?_)
    rcases ifs hr with ⟨h2,hr⟩|⟨h2,hr⟩
    · have T:=an h2 T
      refine wA T (g:=?_)
      obtain ⟨v6,h3,hr⟩:=bs hr
      apply TO.cal (wn T) rfl goFn17 (base_Within_spec h3) rfl rfl rfl
      repeat exact sd T
      refine wa_ T (g:=?_)
      apply TO.pop1 (wn T) (pop_not rfl)
      repeat exact sd T
      refine wa_ T (g:=?_)
      rcases ifs hr with ⟨h4,hr⟩|⟨h4,hr⟩
      · have T:=an h4 T
        refine wA T (g:=?_)
        obtain ⟨v7,h5,hr⟩:=bs hr
        apply TO.cal (wn T) rfl goFn17 (base_Within_spec h5) rfl rfl rfl
        repeat exact sd T
        refine wa_ T (g:=?_)
        apply TO.pop1 (wn T) (pop_not rfl)
        repeat exact sd T
        refine wa_ T (g:=?_)
        rcases ifs hr with ⟨h6,hr⟩|⟨h6,hr⟩
        · have T:=an h6 T
          refine wa_ T (g:=?_)
          cases hr
          refine ⟨.inr rfl,_,(ry T),?_⟩
          exact wk_ T [] rfl .nil
        · have T:=an h6 T
          refine wa_ T (g:=?_)
          cases hr
          refine ⟨.inr rfl,_,(ry T),?_⟩
          exact wk_ T [] rfl .nil
      · have T:=an h4 T
        refine wa_ T (g:=?_)
        cases hr
        refine ⟨.inr rfl,_,(ry T),?_⟩
        exact wk_ T [] rfl .nil
    · have T:=an h2 T
      refine wa_ T (g:=?_)
      cases hr
      refine ⟨.inr rfl,_,(ry T),?_⟩
      exact wk_ T [] rfl .nil
  rfl

end Go.Rex

namespace Go.Rex
open Go.Proofs
open Go Go.Rex Go.RowKit
set_option maxRecDepth 100000
set_option maxHeartbeats 200000
theorem ref07_GainErr_spec {v1 : Int} {v2 : Int} {v3 : Int} (hr : ref07_GainErr v1 v2 = some (v3)) : Spec (lim Tryz.prog) 73 [.v (.int .i64 v1),.v (.int .i64 v2)] ⟨[.v (.int .i64 v3)],[]⟩:=by
  unfold ref07_GainErr at hr
  have T:=trivial
  apply Spec.fn Tryz.func73 rfl
  focus (simp [Tryz.f73]<;>exact rfl)
  focus
    refine wa_ T (g:=?_)
    obtain ⟨v4,h1,hr⟩:=bs hr
    apply TO.cal (wn T) rfl goFn17 (base_Within_spec h1) rfl rfl rfl
    repeat exact sd T
    refine wa_ T (g:=?_)
    apply TO.pop1 (wn T) (pop_not rfl)
    repeat exact sd T
    refine wa_ T (g:=?_)
    rcases ifs hr with ⟨h2,hr⟩|⟨h2,hr⟩
    · have T:=an h2 T
      refine wa_ T (g:=?_)
      obtain ⟨v5,h3,hr⟩:=bs hr
      apply TO.cal (wn T) rfl goFn17 (base_Within_spec h3) rfl rfl rfl
      repeat exact sd T
      refine wa_ T (g:=?_)
      apply TO.pop1 (wn T) (pop_not rfl)
      repeat exact sd T
      refine wa_ T (g:=?_)
      rcases ifs hr with ⟨h4,hr⟩|⟨h4,hr⟩
      · have T:=an h4 T
        refine wa_ T (g:=?_)
        cases hr
        refine ⟨.inr rfl,_,(ry T),?_⟩
        exact wk_ T [] rfl .nil
      · have T:=an h4 T
        refine wa_ T (g:=?_)
        cases hr
        refine ⟨.inr rfl,_,(ry T),?_⟩
        exact wk_ T [] rfl .nil
    · have T:=an h2 T
      refine wa_ T (g:=?_)
      cases hr
      refine ⟨.inr rfl,_,(ry T),?_⟩
      exact wk_ T [] rfl .nil
  rfl

end Go.Rex

namespace Go.Rex
open Go.Proofs
open Go Go.Rex Go.RowKit
set_option maxRecDepth 100000
set_option maxHeartbeats 1000000
def y39:=an @ag22 <| an @ag24 <| an @ag3 <| an @ag38 <| an @ag40 <| an @cs24 <| an @cs38 <| an @cs40 <| an @fd24_2 <| an @fd40_0 <| an @fd40_1 <| an @fd40_2 <| an @ok24 <| an @ok38 <| an @ok40 <| an @so22 <| an @zc40 <| @wi64_0a1
theorem ref07_CheckArray_spec {v1 : Int} {v2 : Int} {v3 : (List (Int × Int × Int × Int × Int))} {v4 : Int} {v5 : Int} (hr : ref07_CheckArray v1 v2 v3 = some (v4,v5)) : Spec (lim Tryz.prog) 16 [.agg [.v (.int .i64 v1),.v (.int .i64 v2),.list 5 (v3.map e_iiiii)]] ⟨[.tuple [.v (.int .i64 v4),.v (.int .i64 v5)]],[]⟩:=by
  unfold ref07_CheckArray at hr
  have T:=an y39 <| @e_iiiii.eq_1
  apply Spec.fn Tryz.func16 rfl
  focus (simp [Tryz.f16]<;>exact rfl)
  focus
    refine wB T (g:=?_)
    obtain ⟨⟨v6,v7⟩,h1,hr⟩:=bs hr
    try dsimp only at hr
    apply TO.cal (wn T) rfl goFn72 (ref07_Sound_spec h1) rfl rfl rfl
    repeat exact sd T
    refine wa_ T (g:=?_)
    obtain ⟨v8,h2,hr⟩:=bs hr
    apply TO.cal (wn T) rfl goFn25 (ref07_SoundErr_spec h2) rfl rfl rfl
    repeat exact sd T
    refine wa_ T (g:=?_)
    rcases ifs hr with ⟨h3,hr⟩|⟨h3,hr⟩
    · have T:=an h3 T
      refine wa_ T (g:=?_)
      cases hr
      refine ⟨.inr rfl,_,(ry T),?_⟩
      exact wk_ T [] rfl .nil
    · have T:=an h3 T
      refine wC T (g:=?_)
      rcases ifs hr with ⟨h4,hr⟩|⟨h4,hr⟩
      · have T:=an h4 T
        refine wa_ T (g:=?_)
        cases hr
        refine ⟨.inr rfl,_,(ry T),?_⟩
        exact wk_ T [] rfl .nil
      · have T:=an h4 T
        refine wC T (g:=?_)
        rcases ifs hr with ⟨h5,hr⟩|⟨h5,hr⟩
        · have T:=an h5 T
          refine wa_ T (g:=?_)
          cases hr
          refine ⟨.inr rfl,_,(ry T),?_⟩
          exact wk_ T [] rfl .nil
        · have T:=an h5 T
          refine wa_ T (g:=?_)
          obtain ⟨v25,h18,hr⟩:=bs hr
          refine TX.loopE (step:=ref07_CheckArray_l1 v3) (x:=0) h18 (fun v9=>⟨.junk :: .fptr true [.v (.int .i64 v1),.v (.int .i64 v2),.list 5 (v3.map e_iiiii)] 0 :: .junk :: .junk :: .junk :: .v (.int .i64 v9) :: .junk :: .junk :: .junk :: .junk :: .junk :: .junk :: .junk :: .junk :: .junk :: .junk :: .junk :: .junk :: .junk :: .junk :: .junk :: .junk :: .junk :: .junk :: .junk :: .junk :: .junk :: .junk :: .junk :: .junk :: .junk :: .junk :: .junk :: .junk :: .junk :: .junk :: .junk :: .junk :: .junk :: .junk :: .junk :: .junk :: .junk :: .junk :: .junk :: .junk :: [],[]⟩) (fun e=>match e with|(.inl v17)=>(.ret,⟨.junk :: .junk :: .v (.int .i64 v17) :: .v (.int .i64 2) :: .junk :: .junk :: .junk :: .junk :: .junk :: .junk :: .junk :: .junk :: .junk :: .junk :: .junk :: .junk :: .junk :: .junk :: .junk :: .junk :: .junk :: .junk :: .junk :: .junk :: .junk :: .junk :: .junk :: .junk :: .junk :: .junk :: .junk :: .junk :: .junk :: .junk :: .junk :: .junk :: .junk :: .junk :: .junk :: .junk :: .junk :: .junk :: .junk :: .junk :: .junk :: .junk :: [],[]⟩)|(.inr _)=>(.exit 0,⟨.junk :: .junk :: .junk :: .junk :: .junk :: .junk :: .junk :: .junk :: .junk :: .junk :: .junk :: .junk :: .junk :: .junk :: .junk :: .junk :: .junk :: .junk :: .junk :: .junk :: .junk :: .junk :: .junk :: .junk :: .junk :: .junk :: .junk :: .junk :: .junk :: .junk :: .junk :: .junk :: .junk :: .junk :: .junk :: .junk :: .junk :: .junk :: .junk :: .junk :: .junk :: .junk :: .junk :: .junk :: .junk :: .junk :: [],[]⟩)) ?_ ?_ ?_ ?_
          · rintro v9 v0 hr
            dsimp only [ref07_CheckArray_l1] at hr
            try dsimp only
            refine wC T (g:=?_)
            rcases ifs hr with ⟨h12,hr⟩|⟨h12,hr⟩
            · have T:=an h12 T
              refine wA T (g:=?_)
              obtain ⟨⟨v18,v19,v20,v21,v22⟩,h13,hr⟩:=bs hr
              try dsimp only at hr
              have T:=an (gx e_iiiii h13) T
              refine wA T (g:=?_)
              obtain ⟨v23,h14,hr⟩:=bs hr
              apply TO.cal (wn T) rfl goFn22 (ref07_PlaceErr_spec h14) rfl rfl rfl
              repeat exact sd T
              refine wa_ T (g:=?_)
              rcases ifs hr with ⟨h15,hr⟩|⟨h15,hr⟩
              · have T:=an h15 T
                refine wa_ T (g:=?_)
                cases hr
                refine ⟨rfl,?_⟩
                exact wk_ T [] rfl .nil
              · have T:=an h15 T
                refine wA T (g:=?_)
                obtain ⟨v24,h16,hr⟩:=bs hr
                apply TO.cal (wn T) rfl goFn73 (ref07_GainErr_spec h16) rfl rfl rfl
                repeat exact sd T
                refine wa_ T (g:=?_)
                rcases ifs hr with ⟨h17,hr⟩|⟨h17,hr⟩
                · have T:=an h17 T
                  refine wa_ T (g:=?_)
                  cases hr
                  refine ⟨rfl,?_⟩
                  exact wk_ T [] rfl .nil
                · have T:=an h17 T
                  refine wa_ T (g:=?_)
                  cases hr
                  refine ⟨rfl,?_⟩
                  exact wk_ T [] rfl .nil
            · have T:=an h12 T
              refine wa_ T (g:=?_)
              cases hr
              refine ⟨rfl,?_⟩
              exact wk_ T [] rfl .nil
          · intro e h;rcases e with _|e<;>cases h
          · try dsimp only
            rcases v25 with v26|_
            · try dsimp only at hr
              try dsimp only
              refine wa_ T (g:=?_)
              cases hr
              refine ⟨.inr rfl,_,(ry T),?_⟩
              exact wk_ T [] rfl .nil
            · try dsimp only at hr
              try dsimp only
              refine wa_ T (g:=?_)
              cases hr
              refine ⟨.inr rfl,_,(ry T),?_⟩
              exact wk_ T [] rfl .nil
          · try dsimp only
            exact wk_ T [] rfl .nil
  rfl

end Go.Rex

namespace Go.Rex
open Go.Proofs
open Go Go.Rex Go.RowKit
set_option maxRecDepth 100000
set_option maxHeartbeats 200000
def y40:=an @ag3 <| an @fd38_0 <| an @fd38_1 <| @fd38_2
theorem ref07_square_spec {v1 : Int} {v2 : Int} {v3 : Int} {v4 : Int} {v5 : Int} {v6 : Int} {v7 : Int} (hr : ref07_square v1 v2 v3 v4 v5 v6 = some (v7)) : Spec (lim Tryz.prog) 79 [.agg [.v (.int .i64 v1),.v (.int .i64 v2),.v (.int .i64 v3)],.agg [.v (.int .i64 v4),.v (.int .i64 v5),.v (.int .i64 v6)]] ⟨[.v (.int .i64 v7)],[]⟩:=by
  unfold ref07_square at hr
  have T:=y40
  apply Spec.fn Tryz.func79 rfl
  focus (simp [Tryz.f79]<;>exact rfl)
  focus
    refine wB T (g:=?_)
    cases hr
    refine ⟨.inr rfl,_,(ry T),?_⟩
    exact wr [] rfl .nil
  rfl

end Go.Rex

namespace Go.Rex
open Go.Proofs
open Go Go.Rex Go.RowKit
set_option maxRecDepth 100000
set_option maxHeartbeats 200000
def y41:=an @ag38 <| an @cs38 <| @ok38
theorem ref07_Near_spec {v1 : Int} {v2 : Int} {v3 : Int} {v4 : Int} {v5 : Int} {v6 : Int} {v7 : Bool} (hr : ref07_Near v1 v2 v3 v4 v5 v6 = some (v7)) : Spec (lim Tryz.prog) 23 [.agg [.v (.int .i64 v1),.v (.int .i64 v2),.v (.int .i64 v3)],.agg [.v (.int .i64 v4),.v (.int .i64 v5),.v (.int .i64 v6)]] ⟨[.v (.bool v7)],[]⟩:=by
  unfold ref07_Near at hr
  have T:=y41
  apply Spec.fn Tryz.func23 rfl
  focus (simp [Tryz.f23]<;>exact rfl)
  focus
    refine wB T (g:=?_)
    obtain ⟨v8,h1,hr⟩:=bs hr
    apply TO.cal (wn T) rfl goFn79 (ref07_square_spec h1) rfl rfl rfl
    repeat exact sd T
    refine wa_ T (g:=?_)
    cases hr
    refine ⟨.inr rfl,_,(ry T),?_⟩
    exact wr [] rfl .nil
  rfl

end Go.Rex

namespace Go.Rex
open Go.Proofs
open Go Go.Rex Go.RowKit
set_option maxRecDepth 100000
set_option maxHeartbeats 200000
def y42:=an @ag22 <| an @ag38 <| an @cs38 <| an @cs40 <| an @fd24_2 <| an @fd40_0 <| an @ok38 <| an @ok40 <| an @so22 <| @wi64_0a1
theorem ref07_SeatErr_spec {v1 : Int} {v2 : Int} {v3 : (List (Int × Int × Int × Int × Int))} {v4 : Int} {v5 : Int} {v6 : Int} {v7 : Int} (hr : ref07_SeatErr v1 v2 v3 v4 v5 v6 = some (v7)) : Spec (lim Tryz.prog) 90 [.agg [.v (.int .i64 v1),.v (.int .i64 v2),.list 5 (v3.map e_iiiii)],.agg [.v (.int .i64 v4),.v (.int .i64 v5),.v (.int .i64 v6)]] ⟨[.v (.int .i64 v7)],[]⟩:=by
  unfold ref07_SeatErr at hr
  have T:=an y42 <| @e_iiiii.eq_1
  apply Spec.fn Tryz.func90 rfl
  focus (simp [Tryz.f90]<;>exact rfl)
  focus
    refine wB T (g:=?_)
    obtain ⟨v8,h1,hr⟩:=bs hr
    apply TO.cal (wn T) rfl goFn22 (ref07_PlaceErr_spec h1) rfl rfl rfl
    repeat exact sd T
    refine wa_ T (g:=?_)
    rcases ifs hr with ⟨h2,hr⟩|⟨h2,hr⟩
    · have T:=an h2 T
      refine wa_ T (g:=?_)
      cases hr
      refine ⟨.inr rfl,_,(ry T),?_⟩
      exact wk_ T [] rfl .nil
    · have T:=an h2 T
      refine wa_ T (g:=?_)
      obtain ⟨v22,h11,hr⟩:=bs hr
      refine TX.loopE (step:=ref07_SeatErr_l1 v3 v4 v5 v6) (x:=0) h11 (fun v9=>⟨.junk :: .junk :: .fptr true [.v (.int .i64 v1),.v (.int .i64 v2),.list 5 (v3.map e_iiiii)] 0 :: .fptr true [.v (.int .i64 v4),.v (.int .i64 v5),.v (.int .i64 v6)] 0 :: .junk :: .junk :: .v (.int .i64 v9) :: .junk :: .junk :: .junk :: .junk :: .junk :: .junk :: .junk :: .junk :: .junk :: .junk :: .junk :: .junk :: .junk :: .junk :: .junk :: .junk :: .junk :: .junk :: .junk :: .junk :: [],[]⟩) (fun e=>match e with|(.inl _)=>(.ret,⟨.junk :: .junk :: .junk :: .junk :: .v (.int .i64 11) :: .junk :: .junk :: .junk :: .junk :: .junk :: .junk :: .junk :: .junk :: .junk :: .junk :: .junk :: .junk :: .junk :: .junk :: .junk :: .junk :: .junk :: .junk :: .junk :: .junk :: .junk :: .junk :: [],[]⟩)|(.inr _)=>(.exit 0,⟨.junk :: .junk :: .junk :: .junk :: .junk :: .junk :: .junk :: .junk :: .junk :: .junk :: .junk :: .junk :: .junk :: .junk :: .junk :: .junk :: .junk :: .junk :: .junk :: .junk :: .junk :: .junk :: .junk :: .junk :: .junk :: .junk :: .junk :: [],[]⟩)) ?_ ?_ ?_ ?_
      · rintro v9 v0 hr
        dsimp only [ref07_SeatErr_l1] at hr
        try dsimp only
        refine wC T (g:=?_)
        rcases ifs hr with ⟨h7,hr⟩|⟨h7,hr⟩
        · have T:=an h7 T
          refine wA T (g:=?_)
          obtain ⟨⟨v16,v17,v18,v19,v20⟩,h8,hr⟩:=bs hr
          try dsimp only at hr
          have T:=an (gx e_iiiii h8) T
          refine wA T (g:=?_)
          obtain ⟨v21,h9,hr⟩:=bs hr
          apply TD.cal (wn T) rfl goFn23 (ref07_Near_spec h9) rfl rfl rfl
          repeat exact sd T
          refine wa_ T (g:=?_)
          rcases ifs hr with ⟨h10,hr⟩|⟨h10,hr⟩
          · have T:=an h10 T
            refine wa_ T (g:=?_)
            cases hr
            refine ⟨rfl,?_⟩
            exact wk_ T [] rfl .nil
          · have T:=an h10 T
            refine wa_ T (g:=?_)
            cases hr
            refine ⟨rfl,?_⟩
            exact wk_ T [] rfl .nil
        · have T:=an h7 T
          refine wa_ T (g:=?_)
          cases hr
          refine ⟨rfl,?_⟩
          exact wk_ T [] rfl .nil
      · intro e h;rcases e with _|e<;>cases h
      · try dsimp only
        rcases v22 with _|_
        · try dsimp only at hr
          try dsimp only
          refine wa_ T (g:=?_)
          cases hr
          refine ⟨.inr rfl,_,(ry T),?_⟩
          exact wk_ T [] rfl .nil
        · try dsimp only at hr
          try dsimp only
          refine wa_ T (g:=?_)
          cases hr
          refine ⟨.inr rfl,_,(ry T),?_⟩
          exact wk_ T [] rfl .nil
      · try dsimp only
        exact wk_ T [] rfl .nil
  rfl

end Go.Rex

namespace Go.Rex
open Go.Proofs
open Go Go.Rex Go.RowKit
set_option maxRecDepth 100000
set_option maxHeartbeats 200000
def y43:=an @wi64_0a1073741824 <| @wi64_1073741824m1073741824
theorem base_Root_spec {v1 : Int} {v2 : Int} (hr : base_Root v1 = some (v2)) : Spec (lim Tryz.prog) 94 [.v (.int .i64 v1)] ⟨[.v (.int .i64 v2)],[]⟩:=by
  unfold base_Root at hr
  have T:=y43
  apply Spec.fn Tryz.func94 rfl
  focus (simp [Tryz.f94]<;>exact rfl)
  focus
    refine wa_ T (g:=?_)
    obtain ⟨v6,h5,hr⟩:=bs hr
    refine TX.loopE (step:=base_Root_l1 v1) (x:=(0,1073741824)) h5 (fun (v3,v4)=>⟨.v (.int .i64 v1) :: .junk :: .junk :: .v (.int .i64 v3) :: .v (.int .i64 v4) :: .junk :: .junk :: .junk :: .junk :: .junk :: .junk :: .junk :: .junk :: .junk :: .junk :: .junk :: .junk :: .junk :: .junk :: .junk :: .junk :: .junk :: [],[]⟩) (fun v5=>(.exit 0,⟨.junk :: .junk :: .junk :: .v (.int .i64 v5) :: .junk :: .junk :: .junk :: .junk :: .junk :: .junk :: .junk :: .junk :: .junk :: .junk :: .junk :: .junk :: .junk :: .junk :: .junk :: .junk :: .junk :: .junk :: [],[]⟩)) ?_ ?_ ?_ ?_
    · rintro ⟨v3,v4⟩ v0 hr
      dsimp only [base_Root_l1] at hr
      try dsimp only
      refine wa_ T (g:=?_)
      rcases ifs hr with ⟨h3,hr⟩|⟨h3,hr⟩
      · have T:=an h3 T
        refine wa_ T (g:=?_)
        rcases ifs hr with ⟨h4,hr⟩|⟨h4,hr⟩
        · have T:=an h4 T
          refine wa_ T (g:=?_)
          cases hr
          refine ⟨rfl,?_⟩
          exact wk_ T [] rfl .nil
        · have T:=an h4 T
          refine wa_ T (g:=?_)
          cases hr
          refine ⟨rfl,?_⟩
          exact wk_ T [] rfl .nil
      · have T:=an h3 T
        refine wa_ T (g:=?_)
        cases hr
        refine ⟨rfl,?_⟩
        exact wk_ T [] rfl .nil
    · intro e h;cases h
    · try dsimp only
      refine wa_ T (g:=?_)
      cases hr
      refine ⟨.inr rfl,_,(ry T),?_⟩
      exact wr [] rfl .nil
    · try dsimp only
      exact wr [] rfl .nil
  rfl

end Go.Rex

namespace Go.Rex
open Go.Proofs
open Go Go.Rex Go.RowKit
set_option maxRecDepth 100000
set_option maxHeartbeats 200000
theorem base_RootUp_spec {v1 : Int} {v2 : Int} (hr : base_RootUp v1 = some (v2)) : Spec (lim Tryz.prog) 95 [.v (.int .i64 v1)] ⟨[.v (.int .i64 v2)],[]⟩:=by
  unfold base_RootUp at hr
  have T:=trivial
  apply Spec.fn Tryz.func95 rfl
  focus (simp [Tryz.f95]<;>exact rfl)
  focus
    refine wa_ T (g:=?_)
    obtain ⟨v3,h1,hr⟩:=bs hr
    apply TO.cal (wn T) rfl goFn94 (base_Root_spec h1) rfl rfl rfl
    repeat exact sd T
    refine wa_ T (g:=?_)
    rcases ifs hr with ⟨h2,hr⟩|⟨h2,hr⟩
    · have T:=an h2 T
      refine wa_ T (g:=?_)
      cases hr
      refine ⟨.inr rfl,_,(ry T),?_⟩
      exact wk_ T [] rfl .nil
    · have T:=an h2 T
      refine wa_ T (g:=?_)
      cases hr
      refine ⟨.inr rfl,_,(ry T),?_⟩
      exact wk_ T [] rfl .nil
  rfl

end Go.Rex

namespace Go.Rex
open Go.Proofs
open Go Go.Rex Go.RowKit
set_option maxRecDepth 100000
set_option maxHeartbeats 200000
def y44:=an @ag38 <| an @ag45 <| an @cs38 <| an @cs45 <| an @ok38 <| an @ok45 <| an @st45 <| @zc45
theorem ref07_milli_spec {v1 : Int} {v2 : Int} {v3 : Int} {v4 : Int} {v5 : Int} {v6 : Int} {v7 : Int} {v8 : Int} (hr : ref07_milli v1 v2 v3 v4 v5 v6 = some (v7,v8)) : Spec (lim Tryz.prog) 80 [.agg [.v (.int .i64 v1),.v (.int .i64 v2),.v (.int .i64 v3)],.agg [.v (.int .i64 v4),.v (.int .i64 v5),.v (.int .i64 v6)]] ⟨[.agg [.v (.int .i64 v7),.v (.int .i64 v8)]],[]⟩:=by
  unfold ref07_milli at hr
  have T:=y44
  apply Spec.fn Tryz.func80 rfl
  focus (simp [Tryz.f80]<;>exact rfl)
  focus
    refine wB T (g:=?_)
    obtain ⟨v9,h1,hr⟩:=bs hr
    apply TO.cal (wn T) rfl goFn79 (ref07_square_spec h1) rfl rfl rfl
    repeat exact sd T
    refine wa_ T (g:=?_)
    obtain ⟨v10,h2,hr⟩:=bs hr
    apply TO.cal (wn T) rfl goFn94 (base_Root_spec h2) rfl rfl rfl
    repeat exact sd T
    refine wa_ T (g:=?_)
    obtain ⟨v11,h3,hr⟩:=bs hr
    apply TO.cal (wn T) rfl goFn95 (base_RootUp_spec h3) rfl rfl rfl
    repeat exact sd T
    refine wa_ T (g:=?_)
    cases hr
    refine ⟨.inr rfl,_,(ry T),?_⟩
    exact wr [] rfl .nil
  rfl

end Go.Rex

namespace Go.Rex
open Go.Proofs
open Go Go.Rex Go.RowKit
set_option maxRecDepth 100000
set_option maxHeartbeats 200000
theorem base_Floor_spec {v1 : Int} {v2 : Int} {v3 : Int} (hr : base_Floor v1 v2 = some (v3)) : Spec (lim Tryz.prog) 81 [.v (.int .i64 v1),.v (.int .i64 v2)] ⟨[.v (.int .i64 v3)],[]⟩:=by
  unfold base_Floor at hr
  have T:=trivial
  apply Spec.fn Tryz.func81 rfl
  focus (simp [Tryz.f81]<;>exact rfl)
  focus
    refine wa_ T (g:=?_)
    by_cases h1 : v2 = 0
    · rw [if_pos h1] at hr
      cases hr
    · rw [if_neg h1] at hr
      have T:=an h1 T
      refine wa_ T (g:=?_)
      rcases ifs hr with ⟨h2,hr⟩|⟨h2,hr⟩
      · have T:=an h2 T
        refine wa_ T (g:=?_)
        cases hr
        refine ⟨.inr rfl,_,(ry T),?_⟩
        exact wk_ T [] rfl .nil
      · have T:=an h2 T
        refine wa_ T (g:=?_)
        cases hr
        refine ⟨.inr rfl,_,(ry T),?_⟩
        exact wk_ T [] rfl .nil
  rfl

end Go.Rex

namespace Go.Rex
open Go.Proofs
open Go Go.Rex Go.RowKit
set_option maxRecDepth 100000
set_option maxHeartbeats 200000
theorem base_Ceil_spec {v1 : Int} {v2 : Int} {v3 : Int} (hr : base_Ceil v1 v2 = some (v3)) : Spec (lim Tryz.prog) 82 [.v (.int .i64 v1),.v (.int .i64 v2)] ⟨[.v (.int .i64 v3)],[]⟩:=by
  unfold base_Ceil at hr
  have T:=trivial
  apply Spec.fn Tryz.func82 rfl
  focus (simp [Tryz.f82]<;>exact rfl)
  focus
    refine wa_ T (g:=?_)
    apply TO.pop1 (wn T) (pop_neg rfl)
    repeat exact sd T
    refine wa_ T (g:=?_)
    obtain ⟨v4,h1,hr⟩:=bs hr
    apply TO.cal (wn T) rfl goFn81 (base_Floor_spec h1) rfl rfl rfl
    repeat exact sd T
    refine wa_ T (g:=?_)
    apply TO.pop1 (wn T) (pop_neg rfl)
    repeat exact sd T
    refine wa_ T (g:=?_)
    cases hr
    refine ⟨.inr rfl,_,(ry T),?_⟩
    exact wr [] rfl .nil
  rfl

end Go.Rex

namespace Go.Rex
open Go.Proofs
open Go Go.Rex Go.RowKit
set_option maxRecDepth 100000
set_option maxHeartbeats 200000
def y45:=an @ag3 <| an @ag38 <| an @ag45 <| an @cs38 <| an @cs45 <| an @fd45_0 <| an @fd45_1 <| an @ok38 <| an @ok45 <| an @st45 <| @zc45
theorem ref07_Strength_spec {v1 : Int} {v2 : Int} {v3 : Int} {v4 : Int} {v5 : Int} {v6 : Int} {v7 : Int} {v8 : Int} (hr : ref07_Strength v1 v2 v3 v4 v5 v6 = some (v7,v8)) : Spec (lim Tryz.prog) 24 [.agg [.v (.int .i64 v1),.v (.int .i64 v2),.v (.int .i64 v3)],.agg [.v (.int .i64 v4),.v (.int .i64 v5),.v (.int .i64 v6)]] ⟨[.agg [.v (.int .i64 v7),.v (.int .i64 v8)]],[]⟩:=by
  unfold ref07_Strength at hr
  have T:=y45
  apply Spec.fn Tryz.func24 rfl
  focus (simp [Tryz.f24]<;>exact rfl)
  focus
    refine wB T (g:=?_)
    obtain ⟨⟨v9,v10⟩,h1,hr⟩:=bs hr
    try dsimp only at hr
    apply TO.cal (wn T) rfl goFn80 (ref07_milli_spec h1) rfl rfl rfl
    repeat exact sd T
    refine wA T (g:=?_)
    obtain ⟨v11,h2,hr⟩:=bs hr
    apply TD.cal (wn T) rfl goFn81 (base_Floor_spec h2) rfl rfl rfl
    repeat exact sd T
    refine wA T (g:=?_)
    obtain ⟨v12,h3,hr⟩:=bs hr
    apply TD.cal (wn T) rfl goFn82 (base_Ceil_spec h3) rfl rfl rfl
    repeat exact sd T
    refine wa_ T (g:=?_)
    cases hr
    refine ⟨.inr rfl,_,(ry T),?_⟩
    exact wr [] rfl .nil
  rfl

end Go.Rex

namespace Go.Rex
open Go.Proofs
open Go Go.Rex Go.RowKit
set_option maxRecDepth 100000
set_option maxHeartbeats 1000000
def y46:=an @ag22 <| an @ag24 <| an @ag3 <| an @ag38 <| an @by3 <| an @by87 <| an @cs24 <| an @cs3 <| an @cs38 <| an @cs40 <| an @cs87 <| an @fd24_2 <| an @fd40_0 <| an @fd45_0 <| an @ni77 <| an @ni87 <| an @ok24 <| an @ok38 <| an @ok40 <| an @so22 <| an @so76 <| an @so77 <| an @so87 <| an @zc3 <| an @zc87 <| @wi64_0a1
theorem ref07_TableOf_spec {v1 : Int} {v2 : Int} {v3 : (List (Int × Int × Int × Int × Int))} {v4 : (List (Int × Int × Int))} {v5 : Int} {v6 : (List (List Int))} {v7 : Int} (hr : ref07_TableOf v1 v2 v3 v4 v5 = some (v6,v7)) : Spec (lim Tryz.prog) 45 [.agg [.v (.int .i64 v1),.v (.int .i64 v2),.list 5 (v3.map e_iiiii)],.list 3 (v4.map e_iii),.v (.int .i64 v5)] ⟨[.tuple [.lsl 0 0 v6.length,.v (.int .i64 v7)]],[.rows 1 (v6.map e_Li_)]⟩:=by
  unfold ref07_TableOf at hr
  have T:=an y46 <| an @e_Li_.eq_1 <| an @e_i.eq_1 <| an @e_iii.eq_1 <| @e_iiiii.eq_1
  apply Spec.fn Tryz.func45 rfl
  focus (simp [Tryz.f45]<;>exact rfl)
  focus
    refine wd_ T (g:=?_)
    rcases ifs hr with ⟨h1,hr⟩|⟨h1,hr⟩
    · have T:=an h1 T
      refine wa_ T (g:=?_)
      cases hr
      refine ⟨.inr rfl,_,(ry T),?_⟩
      exact wk_ T [none] rfl (.virt .nil)
    · have T:=an h1 T
      refine wc_ T (g:=?_)
      rcases ifs hr with ⟨h2,hr⟩|⟨h2,hr⟩
      · have T:=an h2 T
        refine wa_ T (g:=?_)
        cases hr
        refine ⟨.inr rfl,_,(ry T),?_⟩
        exact wk_ T [none] rfl (.virt .nil)
      · have T:=an h2 T
        refine wC T (g:=?_)
        rcases ifs hr with ⟨h3,hr⟩|⟨h3,hr⟩
        · have T:=an h3 T
          refine wa_ T (g:=?_)
          cases hr
          refine ⟨.inr rfl,_,(ry T),?_⟩
          exact wk_ T [none] rfl (.virt .nil)
        · have T:=an h3 T
          refine wa_ T (g:=?_)
          obtain ⟨v8,h4,hr⟩:=bs hr
          apply TO.cal (wn T) rfl goFn17 (base_Within_spec h4) rfl rfl rfl
          repeat exact sd T
          refine wa_ T (g:=?_)
          apply TO.pop1 (wn T) (pop_not rfl)
          repeat exact sd T
          refine wa_ T (g:=?_)
          rcases ifs hr with ⟨h5,hr⟩|⟨h5,hr⟩
          · have T:=an h5 T
            refine wa_ T (g:=?_)
            apply TX.vt (α:=(List Int)) e_Li_ 8 1 rfl
            repeat exact sd T
            with_reducible apply TX.here
            refine wa_ T (g:=?_)
            obtain ⟨v69,h42,hr⟩:=bs hr
            refine TX.loopE (step:=ref07_TableOf_l1 v1 v2 v3 v4 v5) (x:=(([] : List (List Int)),0)) h42 (fun (v9,v10)=>⟨.junk :: .list 3 (v4.map e_iii) :: .v (.int .i64 v5) :: .fptr true [.v (.int .i64 v1),.v (.int .i64 v2),.list 5 (v3.map e_iiiii)] 0 :: .junk :: .junk :: .junk :: .junk :: .lsl 0 0 v9.length :: .v (.int .i64 v10) :: .junk :: .junk :: .junk :: .junk :: .junk :: .junk :: .junk :: .junk :: .junk :: .junk :: .junk :: .junk :: .junk :: .junk :: .junk :: .junk :: .junk :: .junk :: .junk :: .junk :: .junk :: .junk :: .junk :: .junk :: .junk :: .junk :: .junk :: .junk :: .junk :: .junk :: .junk :: .junk :: .junk :: .junk :: .junk :: .junk :: .junk :: .junk :: .junk :: .junk :: .junk :: .junk :: .junk :: .junk :: .junk :: .junk :: .junk :: .junk :: .junk :: .junk :: .junk :: .junk :: .junk :: .junk :: .junk :: .junk :: .junk :: .junk :: .junk :: .junk :: .junk :: .junk :: .junk :: .junk :: .junk :: .junk :: .junk :: .junk :: .junk :: .junk :: [],[.rows 1 (v9.map e_Li_)]⟩) (fun e=>match e with|(.inl v39)=>(.ret,⟨.junk :: .junk :: .junk :: .junk :: .junk :: .junk :: .v (.slice none 0 0) :: .v (.int .i64 v39) :: .junk :: .junk :: .junk :: .junk :: .junk :: .junk :: .junk :: .junk :: .junk :: .junk :: .junk :: .junk :: .junk :: .junk :: .junk :: .junk :: .junk :: .junk :: .junk :: .junk :: .junk :: .junk :: .junk :: .junk :: .junk :: .junk :: .junk :: .junk :: .junk :: .junk :: .junk :: .junk :: .junk :: .junk :: .junk :: .junk :: .junk :: .junk :: .junk :: .junk :: .junk :: .junk :: .junk :: .junk :: .junk :: .junk :: .junk :: .junk :: .junk :: .junk :: .junk :: .junk :: .junk :: .junk :: .junk :: .junk :: .junk :: .junk :: .junk :: .junk :: .junk :: .junk :: .junk :: .junk :: .junk :: .junk :: .junk :: .junk :: .junk :: .junk :: .junk :: .junk :: [],[]⟩)|(.inr v40)=>(.exit 0,⟨.junk :: .junk :: .junk :: .junk :: .junk :: .junk :: .junk :: .junk :: .lsl 0 0 v40.length :: .junk :: .junk :: .junk :: .junk :: .junk :: .junk :: .junk :: .junk :: .junk :: .junk :: .junk :: .junk :: .junk :: .junk :: .junk :: .junk :: .junk :: .junk :: .junk :: .junk :: .junk :: .junk :: .junk :: .junk :: .junk :: .junk :: .junk :: .junk :: .junk :: .junk :: .junk :: .junk :: .junk :: .junk :: .junk :: .junk :: .junk :: .junk :: .junk :: .junk :: .junk :: .junk :: .junk :: .junk :: .junk :: .junk :: .junk :: .junk :: .junk :: .junk :: .junk :: .junk :: .junk :: .junk :: .junk :: .junk :: .junk :: .junk :: .junk :: .junk :: .junk :: .junk :: .junk :: .junk :: .junk :: .junk :: .junk :: .junk :: .junk :: .junk :: .junk :: [],[.rows 1 (v40.map e_Li_)]⟩)) ?_ ?_ ?_ ?_
            · rintro ⟨v9,v10⟩ v0 hr
              dsimp only [ref07_TableOf_l1] at hr
              try dsimp only
              refine wc_ T (g:=?_)
              rcases ifs hr with ⟨h24,hr⟩|⟨h24,hr⟩
              · have T:=an h24 T
                refine wA T (g:=?_)
                obtain ⟨⟨v41,v42,v43⟩,h25,hr⟩:=bs hr
                try dsimp only at hr
                have h25m:=tidx_map (f:=e_iii) h25
                have h25l:=getI_lt h25
                try simp only [List.length_set] at h25l
                have h25a:=getI_at h25
                have T:=an h25m T
                have T:=an h25l T
                have T:=an h25a T
                refine wA T (g:=?_)
                obtain ⟨v44,h26,hr⟩:=bs hr
                apply TD.cal (wn T) rfl goFn90 (ref07_SeatErr_spec h26) rfl rfl rfl
                repeat exact sd T
                refine wa_ T (g:=?_)
                rcases ifs hr with ⟨h27,hr⟩|⟨h27,hr⟩
                · have T:=an h27 T
                  refine wa_ T (g:=?_)
                  cases hr
                  refine ⟨rfl,?_⟩
                  exact wk_ T [] rfl .nil
                · have T:=an h27 T
                  refine wa_ T (g:=?_)
                  apply TX.vt (α:=Int) e_i 11 1 rfl
                  repeat exact sd T
                  with_reducible apply TX.here
                  refine wa_ T (g:=?_)
                  obtain ⟨v66,h40,hr⟩:=bs hr
                  refine TX.loopE (step:=ref07_TableOf_l2 v3 v5 v41 v42 v43) (x:=(([] : List Int),0)) h40 (fun (v45,v46)=>⟨.junk :: .list 3 (v4.map e_iii) :: .v (.int .i64 v5) :: .fptr true [.v (.int .i64 v1),.v (.int .i64 v2),.list 5 (v3.map e_iiiii)] 0 :: .junk :: .junk :: .junk :: .junk :: .lsl 0 0 v9.length :: .v (.int .i64 v10) :: .junk :: .lsl 1 0 v45.length :: .v (.int .i64 v46) :: .junk :: .junk :: .junk :: .junk :: .junk :: .junk :: .junk :: .junk :: .junk :: .junk :: .junk :: .junk :: .junk :: .junk :: .junk :: .junk :: .junk :: .junk :: .junk :: .junk :: .junk :: .junk :: .junk :: .junk :: .junk :: .junk :: .junk :: .junk :: .junk :: .junk :: .junk :: .junk :: .junk :: .junk :: .junk :: .junk :: .junk :: .junk :: .junk :: .junk :: .junk :: .junk :: .junk :: .junk :: .junk :: .junk :: .junk :: .junk :: .junk :: .junk :: .junk :: .junk :: .junk :: .junk :: .junk :: .junk :: .junk :: .junk :: .junk :: .junk :: .junk :: .junk :: .junk :: .junk :: .junk :: .junk :: .junk :: [],[.rows 1 (v9.map e_Li_),.rows 1 (v45.map e_i)]⟩) (fun e=>match e with|(.inl _)=>(.ret,⟨.junk :: .junk :: .junk :: .junk :: .junk :: .junk :: .v (.slice none 0 0) :: .v (.int .i64 8) :: .junk :: .junk :: .junk :: .junk :: .junk :: .junk :: .junk :: .junk :: .junk :: .junk :: .junk :: .junk :: .junk :: .junk :: .junk :: .junk :: .junk :: .junk :: .junk :: .junk :: .junk :: .junk :: .junk :: .junk :: .junk :: .junk :: .junk :: .junk :: .junk :: .junk :: .junk :: .junk :: .junk :: .junk :: .junk :: .junk :: .junk :: .junk :: .junk :: .junk :: .junk :: .junk :: .junk :: .junk :: .junk :: .junk :: .junk :: .junk :: .junk :: .junk :: .junk :: .junk :: .junk :: .junk :: .junk :: .junk :: .junk :: .junk :: .junk :: .junk :: .junk :: .junk :: .junk :: .junk :: .junk :: .junk :: .junk :: .junk :: .junk :: .junk :: .junk :: .junk :: [],[]⟩)|(.inr v56)=>(.exit 2,⟨.junk :: .list 3 (v4.map e_iii) :: .v (.int .i64 v5) :: .fptr true [.v (.int .i64 v1),.v (.int .i64 v2),.list 5 (v3.map e_iiiii)] 0 :: .junk :: .junk :: .junk :: .junk :: .lsl 0 0 v9.length :: .v (.int .i64 v10) :: .junk :: .lsl 1 0 v56.length :: .junk :: .junk :: .junk :: .junk :: .junk :: .junk :: .junk :: .junk :: .junk :: .junk :: .junk :: .junk :: .junk :: .junk :: .junk :: .junk :: .junk :: .junk :: .junk :: .junk :: .junk :: .junk :: .junk :: .junk :: .junk :: .junk :: .junk :: .junk :: .junk :: .junk :: .junk :: .junk :: .junk :: .junk :: .junk :: .junk :: .junk :: .junk :: .junk :: .junk :: .junk :: .junk :: .junk :: .junk :: .junk :: .junk :: .junk :: .junk :: .junk :: .junk :: .junk :: .junk :: .junk :: .junk :: .junk :: .junk :: .junk :: .junk :: .junk :: .junk :: .junk :: .junk :: .junk :: .junk :: .junk :: .junk :: .junk :: .junk :: [],[.rows 1 (v9.map e_Li_),.rows 1 (v56.map e_i)]⟩)) ?_ ?_ ?_ ?_
                  · rintro ⟨v45,v46⟩ v0 hr
                    dsimp only [ref07_TableOf_l2] at hr
                    try dsimp only
                    refine wC T (g:=?_)
                    rcases ifs hr with ⟨h34,hr⟩|⟨h34,hr⟩
                    · have T:=an h34 T
                      refine wA T (g:=?_)
                      obtain ⟨⟨v57,v58,v59,v60,v61⟩,h35,hr⟩:=bs hr
                      try dsimp only at hr
                      have h35m:=tidx_map (f:=e_iiiii) h35
                      have h35l:=getI_lt h35
                      try simp only [List.length_set] at h35l
                      have h35a:=getI_at h35
                      have T:=an h35m T
                      have T:=an h35l T
                      have T:=an h35a T
                      refine wA T (g:=?_)
                      obtain ⟨⟨v62,v63⟩,h36,hr⟩:=bs hr
                      try dsimp only at hr
                      apply TD.cal (wn T) rfl goFn24 (ref07_Strength_spec h36) rfl rfl rfl
                      repeat exact sd T
                      refine wa_ T (g:=?_)
                      obtain ⟨v64,h37,hr⟩:=bs hr
                      apply TO.cal (wn T) rfl goFn81 (base_Floor_spec h37) rfl rfl rfl
                      repeat exact sd T
                      refine wa_ T (g:=?_)
                      rcases ifs hr with ⟨h38,hr⟩|⟨h38,hr⟩
                      · have T:=an h38 T
                        refine wa_ T (g:=?_)
                        cases hr
                        refine ⟨rfl,?_⟩
                        exact wk_ T [] rfl .nil
                      · have T:=an h38 T
                        refine wa_ T (g:=?_)
                        apply TO.bm e_i ([v64] : List Int) (wn T) rfl (by simp only [zz,y46,e_Li_,e_i,e_iii,e_iiiii,Nat.reduceAdd,Nat.reduceMul,Nat.reduceLeDiff,Nat.reduceEqDiff,tslice,tparts,h1,h2,h3,h5,h24,h25m,h25l,h25a,h27,h34,h35m,h35l,h35a,h38];exact rfl) rfl
                        repeat exact sd T
                        refine wa_ T (g:=?_)
                        obtain ⟨v65,h39,hr⟩:=bs hr
                        apply TO.ap (f:=e_i) (xs:=v45) (ys:=([v64] : List Int)) (wn T) rfl rfl (by first|rfl|simp only [List.length_set]) rfl rfl so87 ni87 zc3 rfl (by rw [by3];exact h39) (fun _=>⟨rfl,rfl,rfl⟩)
                        repeat exact sd T
                        refine wa_ T (g:=?_)
                        cases hr
                        refine ⟨rfl,?_⟩
                        exact wk_ T [some 0,some 1] rfl (.rows (.rows .nil rfl rfl) rfl rfl)
                    · have T:=an h34 T
                      refine wa_ T (g:=?_)
                      cases hr
                      refine ⟨rfl,?_⟩
                      exact wk_ T [some 0,some 1] rfl (.rows (.rows .nil rfl rfl) rfl rfl)
                  · intro e h;rcases e with _|e<;>cases h
                  · try dsimp only
                    rcases v66 with _|v67
                    · try dsimp only at hr
                      try dsimp only
                      refine wa_ T (g:=?_)
                      cases hr
                      refine ⟨rfl,?_⟩
                      exact wk_ T [] rfl .nil
                    · try dsimp only at hr
                      try dsimp only
                      refine wa_ T (g:=?_)
                      apply TO.frz 1 rfl rfl
                      repeat exact sd T
                      refine wa_ T (g:=?_)
                      apply TO.bm e_Li_ ([v67] : List (List Int)) (wn T) rfl (by simp only [zz,y46,e_Li_,e_i,e_iii,e_iiiii,Nat.reduceAdd,Nat.reduceMul,Nat.reduceLeDiff,Nat.reduceEqDiff,tslice,tparts,h1,h2,h3,h5,h24,h25m,h25l,h25a,h27];exact rfl) rfl
                      repeat exact sd T
                      refine wa_ T (g:=?_)
                      obtain ⟨v68,h41,hr⟩:=bs hr
                      apply TO.ap (f:=e_Li_) (xs:=v9) (ys:=([v67] : List (List Int))) (wn T) rfl rfl (by first|rfl|simp only [List.length_set]) rfl rfl so77 ni77 zc87 rfl (by rw [by87];exact h41) (fun _=>⟨rfl,rfl,rfl⟩)
                      repeat exact sd T
                      refine wa_ T (g:=?_)
                      cases hr
                      refine ⟨rfl,?_⟩
                      exact wk_ T [some 0] rfl (.rows .nil rfl rfl)
                  · try dsimp only
                    exact wk_ T [some 0,some 1] rfl (.rows (.rows .nil rfl rfl) rfl rfl)
              · have T:=an h24 T
                refine wa_ T (g:=?_)
                cases hr
                refine ⟨rfl,?_⟩
                exact wk_ T [some 0] rfl (.rows .nil rfl rfl)
            · intro e h;rcases e with _|e<;>cases h
            · try dsimp only
              rcases v69 with v70|v71
              · try dsimp only at hr
                try dsimp only
                refine wa_ T (g:=?_)
                cases hr
                refine ⟨.inr rfl,_,(ry T),?_⟩
                exact wk_ T [none] rfl (.virt .nil)
              · try dsimp only at hr
                try dsimp only
                refine wa_ T (g:=?_)
                cases hr
                refine ⟨.inr rfl,_,(ry T),?_⟩
                exact wk_ T [some 0] rfl (.rows .nil rfl rfl)
            · try dsimp only
              exact wk_ T [some 0] rfl (.rows .nil rfl rfl)
          · have T:=an h5 T
            refine wa_ T (g:=?_)
            cases hr
            refine ⟨.inr rfl,_,(ry T),?_⟩
            exact wk_ T [none] rfl (.virt .nil)
  rfl

end Go.Rex

namespace Go.Rex
open Go.Proofs
open Go Go.Rex Go.RowKit
set_option maxRecDepth 100000
set_option maxHeartbeats 200000
def y47:=an @ag3 <| an @cs3 <| an @ok3 <| an @so87 <| @wi64_0a1
theorem base_Ints_spec {v1 : (List Int)} {v2 : (List Int)} {v3 : Bool} (hr : base_Ints v1 v2 = some (v3)) : Spec (lim Tryz.prog) 102 [.list 1 (v1.map e_i),.list 1 (v2.map e_i)] ⟨[.v (.bool v3)],[]⟩:=by
  unfold base_Ints at hr
  have T:=an y47 <| @e_i.eq_1
  apply Spec.fn Tryz.func102 rfl
  focus (simp [Tryz.f102]<;>exact rfl)
  focus
    refine wc_ T (g:=?_)
    rcases ifs hr with ⟨h1,hr⟩|⟨h1,hr⟩
    · have T:=an h1 T
      refine wa_ T (g:=?_)
      cases hr
      refine ⟨.inr rfl,_,(ry T),?_⟩
      exact wk_ T [] rfl .nil
    · have T:=an h1 T
      refine wa_ T (g:=?_)
      obtain ⟨v9,h10,hr⟩:=bs hr
      refine TX.loopE (step:=base_Ints_l1 v1 v2) (x:=0) h10 (fun v4=>⟨.list 1 (v1.map e_i) :: .list 1 (v2.map e_i) :: .junk :: .junk :: .junk :: .v (.int .i64 v4) :: .junk :: .junk :: .junk :: .junk :: .junk :: .junk :: .junk :: .junk :: .junk :: .junk :: .junk :: .junk :: .junk :: .junk :: .junk :: .junk :: .junk :: .junk :: .junk :: .junk :: [],[]⟩) (fun e=>match e with|(.inl _)=>(.ret,⟨.junk :: .junk :: .junk :: .junk :: .v (.bool false) :: .junk :: .junk :: .junk :: .junk :: .junk :: .junk :: .junk :: .junk :: .junk :: .junk :: .junk :: .junk :: .junk :: .junk :: .junk :: .junk :: .junk :: .junk :: .junk :: .junk :: .junk :: [],[]⟩)|(.inr _)=>(.exit 0,⟨.junk :: .junk :: .junk :: .junk :: .junk :: .junk :: .junk :: .junk :: .junk :: .junk :: .junk :: .junk :: .junk :: .junk :: .junk :: .junk :: .junk :: .junk :: .junk :: .junk :: .junk :: .junk :: .junk :: .junk :: .junk :: .junk :: [],[]⟩)) ?_ ?_ ?_ ?_
      · rintro v4 v0 hr
        dsimp only [base_Ints_l1] at hr
        try dsimp only
        refine wc_ T (g:=?_)
        rcases ifs hr with ⟨h6,hr⟩|⟨h6,hr⟩
        · have T:=an h6 T
          refine wa_ T (g:=?_)
          obtain ⟨v7,h7,hr⟩:=bs hr
          have T:=an (gx e_i h7) T
          refine wA T (g:=?_)
          obtain ⟨v8,h8,hr⟩:=bs hr
          have T:=an (gx e_i h8) T
          refine wA T (g:=?_)
          rcases ifs hr with ⟨h9,hr⟩|⟨h9,hr⟩
          · have T:=an h9 T
            refine wa_ T (g:=?_)
            cases hr
            refine ⟨rfl,?_⟩
            exact wk_ T [] rfl .nil
          · have T:=an h9 T
            refine wa_ T (g:=?_)
            cases hr
            refine ⟨rfl,?_⟩
            exact wk_ T [] rfl .nil
        · have T:=an h6 T
          refine wa_ T (g:=?_)
          cases hr
          refine ⟨rfl,?_⟩
          exact wk_ T [] rfl .nil
      · intro e h;rcases e with _|e<;>cases h
      · try dsimp only
        rcases v9 with _|_
        · try dsimp only at hr
          try dsimp only
          refine wa_ T (g:=?_)
          cases hr
          refine ⟨.inr rfl,_,(ry T),?_⟩
          exact wk_ T [] rfl .nil
        · try dsimp only at hr
          try dsimp only
          refine wa_ T (g:=?_)
          cases hr
          refine ⟨.inr rfl,_,(ry T),?_⟩
          exact wk_ T [] rfl .nil
      · try dsimp only
        exact wk_ T [] rfl .nil
  rfl

end Go.Rex

namespace Go.Rex
open Go.Proofs
open Go Go.Rex Go.RowKit
set_option maxRecDepth 100000
set_option maxHeartbeats 200000
def y48:=an @ag87 <| an @cs87 <| an @ok87 <| an @so77 <| @wi64_0a1
theorem base_Lists_spec {v1 : (List (List Int))} {v2 : (List (List Int))} {v3 : Bool} (hr : base_Lists v1 v2 = some (v3)) : Spec (lim Tryz.prog) 46 [.list 1 (v1.map e_Li_),.list 1 (v2.map e_Li_)] ⟨[.v (.bool v3)],[]⟩:=by
  unfold base_Lists at hr
  have T:=an y48 <| @e_Li_.eq_1
  apply Spec.fn Tryz.func46 rfl
  focus (simp [Tryz.f46]<;>exact rfl)
  focus
    refine wc_ T (g:=?_)
    rcases ifs hr with ⟨h1,hr⟩|⟨h1,hr⟩
    · have T:=an h1 T
      refine wa_ T (g:=?_)
      cases hr
      refine ⟨.inr rfl,_,(ry T),?_⟩
      exact wk_ T [] rfl .nil
    · have T:=an h1 T
      refine wa_ T (g:=?_)
      obtain ⟨v11,h12,hr⟩:=bs hr
      refine TX.loopE (step:=base_Lists_l1 v1 v2) (x:=0) h12 (fun v4=>⟨.list 1 (v1.map e_Li_) :: .list 1 (v2.map e_Li_) :: .junk :: .junk :: .junk :: .v (.int .i64 v4) :: .junk :: .junk :: .junk :: .junk :: .junk :: .junk :: .junk :: .junk :: .junk :: .junk :: .junk :: .junk :: .junk :: .junk :: .junk :: .junk :: .junk :: .junk :: .junk :: .junk :: .junk :: [],[]⟩) (fun e=>match e with|(.inl _)=>(.ret,⟨.junk :: .junk :: .junk :: .junk :: .v (.bool false) :: .junk :: .junk :: .junk :: .junk :: .junk :: .junk :: .junk :: .junk :: .junk :: .junk :: .junk :: .junk :: .junk :: .junk :: .junk :: .junk :: .junk :: .junk :: .junk :: .junk :: .junk :: .junk :: [],[]⟩)|(.inr _)=>(.exit 0,⟨.junk :: .junk :: .junk :: .junk :: .junk :: .junk :: .junk :: .junk :: .junk :: .junk :: .junk :: .junk :: .junk :: .junk :: .junk :: .junk :: .junk :: .junk :: .junk :: .junk :: .junk :: .junk :: .junk :: .junk :: .junk :: .junk :: .junk :: [],[]⟩)) ?_ ?_ ?_ ?_
      · rintro v4 v0 hr
        dsimp only [base_Lists_l1] at hr
        try dsimp only
        refine wc_ T (g:=?_)
        rcases ifs hr with ⟨h7,hr⟩|⟨h7,hr⟩
        · have T:=an h7 T
          refine wa_ T (g:=?_)
          obtain ⟨v8,h8,hr⟩:=bs hr
          have T:=an (gx e_Li_ h8) T
          refine wA T (g:=?_)
          obtain ⟨v9,h9,hr⟩:=bs hr
          have T:=an (gx e_Li_ h9) T
          refine wA T (g:=?_)
          obtain ⟨v10,h10,hr⟩:=bs hr
          apply TD.cal (wn T) rfl goFn102 (base_Ints_spec h10) rfl rfl rfl
          repeat exact sd T
          refine wa_ T (g:=?_)
          apply TD.pop1 (wn T) (pop_not rfl)
          repeat exact sd T
          refine wa_ T (g:=?_)
          rcases ifs hr with ⟨h11,hr⟩|⟨h11,hr⟩
          · have T:=an h11 T
            refine wa_ T (g:=?_)
            cases hr
            refine ⟨rfl,?_⟩
            exact wk_ T [] rfl .nil
          · have T:=an h11 T
            refine wa_ T (g:=?_)
            cases hr
            refine ⟨rfl,?_⟩
            exact wk_ T [] rfl .nil
        · have T:=an h7 T
          refine wa_ T (g:=?_)
          cases hr
          refine ⟨rfl,?_⟩
          exact wk_ T [] rfl .nil
      · intro e h;rcases e with _|e<;>cases h
      · try dsimp only
        rcases v11 with _|_
        · try dsimp only at hr
          try dsimp only
          refine wa_ T (g:=?_)
          cases hr
          refine ⟨.inr rfl,_,(ry T),?_⟩
          exact wk_ T [] rfl .nil
        · try dsimp only at hr
          try dsimp only
          refine wa_ T (g:=?_)
          cases hr
          refine ⟨.inr rfl,_,(ry T),?_⟩
          exact wk_ T [] rfl .nil
      · try dsimp only
        exact wk_ T [] rfl .nil
  rfl

end Go.Rex

namespace Go.Rex
open Go.Proofs
open Go Go.Rex Go.RowKit
set_option maxRecDepth 100000
set_option maxHeartbeats 200000
def y49:=an @ag87 <| an @cs87 <| an @ok87 <| @so77
theorem base_Lists_951e_spec {v1 : (List (List Int))} {v2 : Bool} (hr : base_Lists_951e v1 = some (v2)) : Spec (lim Tryz.prog) 46 [.list 1 (v1.map e_Li_),.v (.slice none 0 0)] ⟨[.v (.bool v2)],[]⟩:=by
  unfold base_Lists_951e at hr
  have T:=an y49 <| @e_Li_.eq_1
  apply Spec.fn Tryz.func46 rfl
  focus (simp [Tryz.f46]<;>exact rfl)
  focus
    refine wc_ T (g:=?_)
    apply TO.pop1 (wn T) (pop_lennil rfl (so77))
    repeat exact sd T
    refine wa_ T (g:=?_)
    rcases ifs hr with ⟨h1,hr⟩|⟨h1,hr⟩
    · have T:=an h1 T
      refine wa_ T (g:=?_)
      cases hr
      refine ⟨.inr rfl,_,(ry T),?_⟩
      exact wk_ T [] rfl .nil
    · have T:=an h1 T
      refine wa_ T (g:=?_)
      obtain ⟨_,h6,hr⟩:=bs hr
      refine TX.loopE (step:=base_Lists_951e_l1 v1) (x:=()) h6 (fun _=>⟨.list 1 (v1.map e_Li_) :: .v (.slice none 0 0) :: .junk :: .junk :: .junk :: .v (.int .i64 0) :: .junk :: .junk :: .junk :: .junk :: .junk :: .junk :: .junk :: .junk :: .junk :: .junk :: .junk :: .junk :: .junk :: .junk :: .junk :: .junk :: .junk :: .junk :: .junk :: .junk :: .junk :: [],[]⟩) (fun _=>(.exit 0,⟨.junk :: .junk :: .junk :: .junk :: .junk :: .junk :: .junk :: .junk :: .junk :: .junk :: .junk :: .junk :: .junk :: .junk :: .junk :: .junk :: .junk :: .junk :: .junk :: .junk :: .junk :: .junk :: .junk :: .junk :: .junk :: .junk :: .junk :: [],[]⟩)) ?_ ?_ ?_ ?_
      · rintro _ v0 hr
        dsimp only [base_Lists_951e_l1] at hr
        try dsimp only
        refine wc_ T (g:=?_)
        rcases ifs hr with ⟨h4,hr⟩|⟨h4,hr⟩
        · have T:=an h4 T
          refine wa_ T (g:=?_)
          obtain ⟨v4,h5,hr⟩:=bs hr
          have T:=an (gx e_Li_ h5) T
          cases hr
        · have T:=an h4 T
          refine wa_ T (g:=?_)
          cases hr
          refine ⟨rfl,?_⟩
          exact wk_ T [] rfl .nil
      · intro e h;cases h
      · try dsimp only
        refine wa_ T (g:=?_)
        cases hr
        refine ⟨.inr rfl,_,(ry T),?_⟩
        exact wk_ T [] rfl .nil
      · try dsimp only
        exact wk_ T [] rfl .nil
  rfl

end Go.Rex

namespace Go.Rex
open Go.Proofs
open Go Go.Rex Go.RowKit
set_option maxRecDepth 100000

end Go.Rex

namespace Go.Rex
open Go.Proofs
open Go Go.Rex Go.RowKit
set_option maxRecDepth 100000
set_option maxHeartbeats 4000000
def y50:=an @ag24 <| an @cs24 <| an @ok24 <| @so76
theorem law07_ArrayTables_law {v1 : Int} {v2 : Int} {v3 : (List (Int × Int × Int × Int × Int))} {v4 : (List (Int × Int × Int))} {v5 : Int} (hr : law07_ArrayTables v1 v2 v3 v4 v5 = some true) {Fz : Nat → Prop} {h : List Blk} {vs : List Value} (hfz : ∀ n, Fz n → n < h.length) (hargs : VLs Fz h noL [.agg [.v (.int .i64 v1), .v (.int .i64 v2), .list 5 (v3.map e_iiiii)], .list 3 (v4.map e_iii), .v (.int .i64 v5)] vs)
    {B lo : Nat} {D : Nat → Prop} {m : NMap} {w : World} {args' : List Value} (hrel : Rel B lo D m h w) (hlo : lo ≤ h.length) (hargs' : VRs D m vs args') : Calls Tryz.prog 9 ⟨args'⟩ w (fun e w'=>e = .returned (.bool true) ∧ Below w.heap.size w w'):=by
  unfold law07_ArrayTables at hr
  have T:=an y50 <| an @e_iii.eq_1 <| @e_iiiii.eq_1
  refine law_tex follows awake_true Tryz.func9 rfl (tm0:=.agg [.v (.int .i64 v1),.v (.int .i64 v2),.list 5 (v3.map e_iiiii)] :: .list 3 (v4.map e_iii) :: .v (.int .i64 v5) :: .junk :: .junk :: .junk :: .junk :: .junk :: .junk :: .junk :: .junk :: .junk :: .junk :: .junk :: .junk :: .junk :: .junk :: .junk :: .junk :: .junk :: .junk :: .junk :: .junk :: .junk :: .junk :: .junk :: .junk :: .junk :: .junk :: .junk :: .junk :: .junk :: .junk :: .junk :: .junk :: .junk :: .junk :: .junk :: .junk :: .junk :: .junk :: .junk :: .junk :: .junk :: .junk :: .junk :: .junk :: .junk :: .junk :: .junk :: .junk :: .junk :: .junk :: []) (by simp [Tryz.f9]<;>exact rfl) ?_ hfz hargs hrel hlo hargs'
  refine wb_ T (g:=?_)
  apply TO.cal (wn T) rfl goFn11 Spec.awake rfl rfl rfl
  repeat exact sd T
  refine wa_ T (g:=?_)
  apply TO.pop1 (wn T) (pop_not rfl)
  repeat exact sd T
  refine wA T (g:=?_)
  obtain ⟨v7,h1,hr⟩:=bs hr
  apply TO.cal (wn T) rfl goFn12 (Spec.ov (law07_few_spec h1) (by decide)) rfl rfl rfl
  repeat exact sd T
  refine wa_ T (g:=?_)
  apply TO.pop1 (wn T) (pop_not rfl)
  repeat exact sd T
  refine wa_ T (g:=?_)
  rcases ifs hr with ⟨h2,hr⟩|⟨h2,hr⟩
  · have T:=an h2 T
    refine wc_ T (g:=?_)
    rcases ifs hr with ⟨h3,hr⟩|⟨h3,hr⟩
    · have T:=an h3 T
      refine wa_ T (g:=?_)
      exact lv T hr
    · have T:=an h3 T
      refine wA T (g:=?_)
      obtain ⟨⟨v8,v9,v10⟩,h4,hr⟩:=bs hr
      try dsimp only at hr
      apply TO.cal (wn T) rfl goFn14 (Spec.ov (ref07_Copy_spec h4) (by decide)) rfl rfl rfl
      repeat exact sd T
      refine wa_ T (g:=?_)
      obtain ⟨v11,h5,hr⟩:=bs hr
      apply TO.cal (wn T) rfl goFn44 (Spec.ov (base_CopyPlaces_spec h5) (by decide)) rfl rfl rfl
      repeat exact sd T
      refine wa_ T (g:=?_)
      apply TO.frz 0 rfl rfl
      repeat exact sd T
      refine wa_ T (g:=?_)
      apply TO.frz 1 rfl rfl
      repeat exact sd T
      refine wa_ T (g:=?_)
      obtain ⟨⟨v16,v17⟩,h8,hr⟩:=bs hr
      try dsimp only at hr
      apply TO.cal (wn T) rfl goFn43 (Spec.ov (array_TableOf_spec h8) (by decide)) rfl rfl rfl
      repeat exact sd T
      refine wA T (g:=?_)
      obtain ⟨⟨v18,v19⟩,h9,hr⟩:=bs hr
      try dsimp only at hr
      apply TO.cal (wn T) rfl goFn16 (Spec.ov (ref07_CheckArray_spec h9) (by decide)) rfl rfl rfl
      repeat exact sd T
      refine wa_ T (g:=?_)
      rcases ifs hr with ⟨h10,hr⟩|⟨h10,hr⟩
      · have T:=an h10 T
        refine wA T (g:=?_)
        obtain ⟨⟨v20,v21⟩,h11,hr⟩:=bs hr
        try dsimp only at hr
        apply TO.cal (wn T) rfl goFn45 (Spec.ov (ref07_TableOf_spec h11) (by decide)) rfl rfl rfl
        repeat exact sd T
        refine wa_ T (g:=?_)
        rcases ifs hr with ⟨h12,hr⟩|⟨h12,hr⟩
        · have T:=an h12 T
          refine wa_ T (g:=?_)
          obtain ⟨v22,h13,hr⟩:=bs hr
          apply TO.lok (wn T) rfl goFn46 (Spec.ov (base_Lists_spec h13) (by decide)) (vw T) rfl rfl (by simp [clTB,cl,e_iiiii,e_i,e_iiiiiiiii,e_z,e_iii,e_Li_])
          repeat exact sd T
          refine wa_ T (g:=?_)
          exact lv T hr
        · have T:=an h12 T
          refine wa_ T (g:=?_)
          exact lv T hr
      · have T:=an h10 T
        refine wa_ T (g:=?_)
        rcases ifs hr with ⟨h14,hr⟩|⟨h14,hr⟩
        · have T:=an h14 T
          refine wa_ T (g:=?_)
          obtain ⟨v23,h15,hr⟩:=bs hr
          apply TO.lok (wn T) rfl goFn46 (Spec.ov (base_Lists_951e_spec h15) (by decide)) (vw T) rfl rfl (by simp [clTB,cl,e_iiiii,e_i,e_iiiiiiiii,e_z,e_iii,e_Li_])
          repeat exact sd T
          refine wa_ T (g:=?_)
          exact lv T hr
        · have T:=an h14 T
          refine wa_ T (g:=?_)
          exact lv T hr
  · have T:=an h2 T
    refine wa_ T (g:=?_)
    exact lv T hr

end Go.Rex
