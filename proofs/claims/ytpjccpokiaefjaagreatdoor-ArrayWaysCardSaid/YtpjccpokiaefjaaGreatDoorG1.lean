/- Proofs that the program's functions do what these plain functions say. -/
import Derived.Test.YtpjccpokiaefjaaGreatDoorGB
import Derived.Test.YtpjccpokiaefjaaGreatDoorS
import Derived.Test.YtpjccpokiaefjaaGreatDoorCZ
set_option linter.unusedSimpArgs false
set_option linter.unusedVariables false
set_option linter.defProp false
namespace Go.Rex
open Go.Proofs
open Go Go.Rex Go.RowKit
set_option maxRecDepth 100000
set_option maxHeartbeats 200000
theorem array_audible_spec {v1 : Int} {v2 : Int} {v3 : Int} {v4 : Int} (hr : array_audible v1 v2 = some (v3,v4)) : Spec (lim Tryz.prog) 64 [.agg [.v (.int .i64 v1),.v (.int .i64 v2)]] ⟨[.func 122 [] [.fptr true [.v (.int .i64 v3),.v (.int .i64 v4)] 0]],[]⟩:=by
  unfold array_audible at hr
  have T:=trivial
  apply Spec.fn Tryz.func64 rfl
  focus (simp [Tryz.f64]<;>exact rfl)
  focus
    refine wb_ T (g:=?_)
    cases hr
    refine ⟨.inr rfl,_,(ry T),?_⟩
    exact wr [] rfl .nil
  rfl

end Go.Rex

namespace Go.Rex
open Go.Proofs
open Go Go.Rex Go.RowKit
set_option maxRecDepth 100000
set_option maxHeartbeats 200000
theorem array_each_aa71_spec {v1 : Int} {v2 : (List Int)} {v3 : Int} {v4 : Int} {v5 : Int} {v6 : (List Int)} {v7 : Int} {v8 : Int} (hr : array_each_aa71 v1 v2 v3 v4 = some (v5,v6,v7,v8)) : Spec (lim Tryz.prog) 143 [.v (.int .i64 v1),.func 162 [] [.fptr true [.list 1 (v2.map e_i)] 0,.fptr true [.v (.int .i64 v3)] 0,.fptr true [.v (.int .i64 v4)] 0]] ⟨[.func 168 [] [.fptr true [.v (.int .i64 v5)] 0,.fptr true [.func 162 [] [.fptr true [.list 1 (v6.map e_i)] 0,.fptr true [.v (.int .i64 v7)] 0,.fptr true [.v (.int .i64 v8)] 0]] 0]],[]⟩:=by
  unfold array_each_aa71 at hr
  have T:=@e_i.eq_1
  apply Spec.fn Tryz.func143 rfl
  focus (simp [Tryz.f143]<;>exact rfl)
  focus
    refine wb_ T (g:=?_)
    cases hr
    refine ⟨.inr rfl,_,(ry T),?_⟩
    exact wr [] rfl .nil
  rfl

end Go.Rex

namespace Go.Rex
open Go.Proofs
open Go Go.Rex Go.RowKit
set_option maxRecDepth 100000
set_option maxHeartbeats 200000
def y1:=an @ag87 <| @so87
theorem array_allWithin_spec {v1 : (List Int)} {v2 : Int} {v3 : Int} {v4 : Int} {v5 : (List Int)} {v6 : Int} {v7 : Int} (hr : array_allWithin v1 v2 v3 = some (v4,v5,v6,v7)) : Spec (lim Tryz.prog) 124 [.list 1 (v1.map e_i),.v (.int .i64 v2),.v (.int .i64 v3)] ⟨[.func 168 [] [.fptr true [.v (.int .i64 v4)] 0,.fptr true [.func 162 [] [.fptr true [.list 1 (v5.map e_i)] 0,.fptr true [.v (.int .i64 v6)] 0,.fptr true [.v (.int .i64 v7)] 0]] 0]],[]⟩:=by
  unfold array_allWithin at hr
  have T:=an y1 <| @e_i.eq_1
  apply Spec.fn Tryz.func124 rfl
  focus (simp [Tryz.f124]<;>exact rfl)
  focus
    refine wD T (g:=?_)
    obtain ⟨⟨v8,v9,v10,v11⟩,h1,hr⟩:=bs hr
    try dsimp only at hr
    apply TO.cal (wn T) rfl goFn143 (array_each_aa71_spec h1) rfl rfl rfl
    repeat exact sd T
    refine wa_ T (g:=?_)
    cases hr
    refine ⟨.inr rfl,_,(ry T),?_⟩
    exact wr [] rfl .nil
  rfl

end Go.Rex

namespace Go.Rex
open Go.Proofs
open Go Go.Rex Go.RowKit
set_option maxRecDepth 100000
set_option maxHeartbeats 200000
def y2:=an @ag3 <| an @cs3 <| an @fd38_0 <| an @fd38_1 <| an @fd38_2 <| an @so87 <| @zc3
theorem array_placed_spec {v1 : Int} {v2 : Int} {v3 : Int} {v4 : Int} {v5 : (List Int)} {v6 : Int} {v7 : Int} (hr : array_placed v1 v2 v3 = some (v4,v5,v6,v7)) : Spec (lim Tryz.prog) 67 [.agg [.v (.int .i64 v1),.v (.int .i64 v2),.v (.int .i64 v3)]] ⟨[.func 168 [] [.fptr true [.v (.int .i64 v4)] 0,.fptr true [.func 162 [] [.fptr true [.list 1 (v5.map e_i)] 0,.fptr true [.v (.int .i64 v6)] 0,.fptr true [.v (.int .i64 v7)] 0]] 0]],[]⟩:=by
  unfold array_placed at hr
  have T:=an y2 <| @e_i.eq_1
  apply Spec.fn Tryz.func67 rfl
  focus (simp [Tryz.f67]<;>exact rfl)
  focus
    refine wB T (g:=?_)
    apply TO.bm e_i ([v1,v2,v3] : List Int) (wn T) rfl (by simp only [zz,y2,e_i,Nat.reduceAdd,Nat.reduceMul,Nat.reduceLeDiff,Nat.reduceEqDiff,tslice,tparts];exact rfl) rfl
    repeat exact sd T
    refine wa_ T (g:=?_)
    obtain ⟨⟨v8,v9,v10,v11⟩,h1,hr⟩:=bs hr
    try dsimp only at hr
    apply TO.cal (wn T) rfl goFn124 (array_allWithin_spec h1) rfl rfl rfl
    repeat exact sd T
    refine wa_ T (g:=?_)
    cases hr
    refine ⟨.inr rfl,_,(ry T),?_⟩
    exact wr [] rfl .nil
  rfl

end Go.Rex

namespace Go.Rex
open Go.Proofs
open Go Go.Rex Go.RowKit
set_option maxRecDepth 100000
set_option maxHeartbeats 200000
theorem array_refuse_spec {v1 : Bool} {v2 : Int} {v3 : Bool} {v4 : Int} (hr : array_refuse v1 v2 = some (v3,v4)) : Spec (lim Tryz.prog) 70 [.v (.bool v1),.v (.int .i64 v2)] ⟨[.func 126 [] [.fptr true [.v (.bool v3)] 0,.fptr true [.v (.int .i64 v4)] 0]],[]⟩:=by
  unfold array_refuse at hr
  have T:=trivial
  apply Spec.fn Tryz.func70 rfl
  focus (simp [Tryz.f70]<;>exact rfl)
  focus
    refine wb_ T (g:=?_)
    cases hr
    refine ⟨.inr rfl,_,(ry T),?_⟩
    exact wr [] rfl .nil
  rfl

end Go.Rex

namespace Go.Rex
open Go.Proofs
open Go Go.Rex Go.RowKit
set_option maxRecDepth 100000
set_option maxHeartbeats 200000
theorem array_within_spec {v1 : Int} {v2 : Int} {v3 : Int} {v4 : Bool} {v5 : Int} (hr : array_within v1 v2 v3 = some (v4,v5)) : Spec (lim Tryz.prog) 100 [.v (.int .i64 v1),.v (.int .i64 v2),.v (.int .i64 v3)] ⟨[.func 126 [] [.fptr true [.v (.bool v4)] 0,.fptr true [.v (.int .i64 v5)] 0]],[]⟩:=by
  unfold array_within at hr
  have T:=trivial
  apply Spec.fn Tryz.func100 rfl
  focus (simp [Tryz.f100]<;>exact rfl)
  focus
    refine wa_ T (g:=?_)
    rcases ifs hr with ⟨h1,hr⟩|⟨h1,hr⟩
    · have T:=an h1 T
      refine wa_ T (g:=?_)
      obtain ⟨⟨v6,v7⟩,h2,hr⟩:=bs hr
      try dsimp only at hr
      apply TO.cal (wn T) rfl goFn70 (array_refuse_spec h2) rfl rfl rfl
      repeat exact sd T
      refine wa_ T (g:=?_)
      cases hr
      refine ⟨.inr rfl,_,(ry T),?_⟩
      exact wk_ T [] rfl .nil
    · have T:=an h1 T
      refine wa_ T (g:=?_)
      obtain ⟨⟨v8,v9⟩,h3,hr⟩:=bs hr
      try dsimp only at hr
      apply TO.cal (wn T) rfl goFn70 (array_refuse_spec h3) rfl rfl rfl
      repeat exact sd T
      refine wa_ T (g:=?_)
      cases hr
      refine ⟨.inr rfl,_,(ry T),?_⟩
      exact wk_ T [] rfl .nil
  rfl

end Go.Rex

namespace Go.Rex
open Go.Proofs
open Go Go.Rex Go.RowKit
set_option maxRecDepth 100000
set_option maxHeartbeats 200000
def y3:=an @ag27 <| @ag4
theorem array_refuse_c1_11f9_spec {v1 : Bool} {v2 : Int} {v3 : Int} (hr : array_refuse_c1_11f9 v1 v2 = some (v3)) : Spec (lim Tryz.prog) 126 [.fptr true [.v (.bool v1)] 0,.fptr true [.v (.int .i64 v2)] 0] ⟨[.v (.int .i64 v3)],[]⟩:=by
  unfold array_refuse_c1_11f9 at hr
  have T:=y3
  apply Spec.fn Tryz.func126 rfl
  focus (simp [Tryz.f126]<;>exact rfl)
  focus
    refine wA T (g:=?_)
    rcases ifs hr with ⟨h1,hr⟩|⟨h1,hr⟩
    · have T:=an h1 T
      refine wA T (g:=?_)
      cases hr
      refine ⟨.inr rfl,_,(ry T),?_⟩
      exact wk_ T [] rfl .nil
    · have T:=an h1 T
      refine wa_ T (g:=?_)
      cases hr
      refine ⟨.inr rfl,_,(ry T),?_⟩
      exact wk_ T [] rfl .nil
  rfl

end Go.Rex

namespace Go.Rex
open Go.Proofs
open Go Go.Rex Go.RowKit
set_option maxRecDepth 100000
set_option maxHeartbeats 200000
def y4:=an @ag3 <| an @ag87 <| an @cs3 <| an @ok3 <| @so87
theorem array_allWithin_c1_ea58_spec {v1 : Int} {v2 : (List Int)} {v3 : Int} {v4 : Int} {v5 : Int} (hr : array_allWithin_c1_ea58 v1 v2 v3 v4 = some (v5)) : Spec (lim Tryz.prog) 162 [.v (.int .i64 v1),.fptr true [.list 1 (v2.map e_i)] 0,.fptr true [.v (.int .i64 v3)] 0,.fptr true [.v (.int .i64 v4)] 0] ⟨[.v (.int .i64 v5)],[]⟩:=by
  unfold array_allWithin_c1_ea58 at hr
  have T:=an y4 <| @e_i.eq_1
  apply Spec.fn Tryz.func162 rfl
  focus (simp [Tryz.f162]<;>exact rfl)
  focus
    refine wA T (g:=?_)
    obtain ⟨v6,h1,hr⟩:=bs hr
    have T:=an (gx e_i h1) T
    refine wA T (g:=?_)
    obtain ⟨⟨v7,v8⟩,h2,hr⟩:=bs hr
    try dsimp only at hr
    first|apply TD.cal (wn T) rfl goFn100 (array_within_spec h2) rfl rfl rfl|apply TD.calw (wn T) rfl goFn100 (array_within_spec h2) rfl rfl rfl rfl
    repeat exact sd T
    refine wa_ T (g:=?_)
    obtain ⟨v9,h3,hr⟩:=bs hr
    first|apply TD.cal (wn T) rfl goFn126 (array_refuse_c1_11f9_spec h3) rfl rfl rfl|apply TD.calw (wn T) rfl goFn126 (array_refuse_c1_11f9_spec h3) rfl rfl rfl rfl
    repeat exact sd T
    refine wa_ T (g:=?_)
    cases hr
    refine ⟨.inr rfl,_,(ry T),?_⟩
    exact wr [] rfl .nil
  rfl

end Go.Rex

namespace Go.Rex
open Go.Proofs
open Go Go.Rex Go.RowKit
set_option maxRecDepth 100000
set_option maxHeartbeats 200000
def y5:=an @ag195 <| an @ag3 <| @wi64_0a1
theorem array_each_c1_6239_spec {v1 : Int} {v2 : (List Int)} {v3 : Int} {v4 : Int} {v5 : Int} (hr : array_each_c1_6239 v1 v2 v3 v4 = some (v5)) : Spec (lim Tryz.prog) 168 [.fptr true [.v (.int .i64 v1)] 0,.fptr true [.func 162 [] [.fptr true [.list 1 (v2.map e_i)] 0,.fptr true [.v (.int .i64 v3)] 0,.fptr true [.v (.int .i64 v4)] 0]] 0] ⟨[.v (.int .i64 v5)],[]⟩:=by
  unfold array_each_c1_6239 at hr
  have T:=an y5 <| @e_i.eq_1
  apply Spec.fn Tryz.func168 rfl
  focus (simp [Tryz.f168]<;>exact rfl)
  focus
    refine wA T (g:=?_)
    obtain ⟨v10,h7,hr⟩:=bs hr
    refine TX.loopE (step:=array_each_c1_6239_l1 v1 v2 v3 v4) (x:=0) h7 (fun v6=>⟨.junk :: .fptr true [.func 162 [] [.fptr true [.list 1 (v2.map e_i)] 0,.fptr true [.v (.int .i64 v3)] 0,.fptr true [.v (.int .i64 v4)] 0]] 0 :: .junk :: .junk :: .junk :: .v (.int .i64 v1) :: .v (.int .i64 v6) :: .junk :: .junk :: .junk :: .junk :: .junk :: .junk :: .junk :: .junk :: .junk :: [],[]⟩) (fun e=>match e with|(.inl v8)=>(.ret,⟨.junk :: .junk :: .v (.int .i64 v8) :: .junk :: .junk :: .junk :: .junk :: .junk :: .junk :: .junk :: .junk :: .junk :: .junk :: .junk :: .junk :: .junk :: [],[]⟩)|(.inr _)=>(.exit 0,⟨.junk :: .junk :: .junk :: .junk :: .junk :: .junk :: .junk :: .junk :: .junk :: .junk :: .junk :: .junk :: .junk :: .junk :: .junk :: .junk :: [],[]⟩)) ?_ ?_ ?_ ?_
    · rintro v6 v0 hr
      dsimp only [array_each_c1_6239_l1] at hr
      try dsimp only
      refine wa_ T (g:=?_)
      rcases ifs hr with ⟨h4,hr⟩|⟨h4,hr⟩
      · have T:=an h4 T
        refine wA T (g:=?_)
        obtain ⟨v9,h5,hr⟩:=bs hr
        apply TO.cal (wn T) rfl goFn162 (array_allWithin_c1_ea58_spec h5) rfl rfl rfl
        repeat exact sd T
        refine wa_ T (g:=?_)
        rcases ifs hr with ⟨h6,hr⟩|⟨h6,hr⟩
        · have T:=an h6 T
          refine wa_ T (g:=?_)
          cases hr
          refine ⟨rfl,?_⟩
          exact wk_ T [] rfl .nil
        · have T:=an h6 T
          refine wa_ T (g:=?_)
          cases hr
          refine ⟨rfl,?_⟩
          exact wk_ T [] rfl .nil
      · have T:=an h4 T
        refine wa_ T (g:=?_)
        cases hr
        refine ⟨rfl,?_⟩
        exact wk_ T [] rfl .nil
    · intro e h;rcases e with _|e<;>cases h
    · try dsimp only
      rcases v10 with v11|_
      · try dsimp only at hr
        try dsimp only
        refine wa_ T (g:=?_)
        cases hr
        refine ⟨.inr rfl,_,(ry T),?_⟩
        exact wr [] rfl .nil
      · try dsimp only at hr
        try dsimp only
        refine wa_ T (g:=?_)
        cases hr
        refine ⟨.inr rfl,_,(ry T),?_⟩
        exact wr [] rfl .nil
    · try dsimp only
      exact wr [] rfl .nil
  rfl

end Go.Rex

namespace Go.Rex
open Go.Proofs
open Go Go.Rex Go.RowKit
set_option maxRecDepth 100000
set_option maxHeartbeats 200000
def y6:=an @ag121 <| an @cs121 <| an @ok121 <| an @so182 <| an @wi64_0a1 <| @wi64_1a1
theorem array_firstError_6760_spec {v1 : Int} {v2 : (List Int)} {v3 : Int} {v4 : Int} {v5 : Int} {v6 : (List Int)} {v7 : Int} {v8 : Int} {v9 : Int} (hr : array_firstError_6760 v1 v2 v3 v4 v5 v6 v7 v8 = some (v9)) : Spec (lim Tryz.prog) 63 [.list 1 [[.func 168 [] [.fptr true [.v (.int .i64 v1)] 0,.fptr true [.func 162 [] [.fptr true [.list 1 (v2.map e_i)] 0,.fptr true [.v (.int .i64 v3)] 0,.fptr true [.v (.int .i64 v4)] 0]] 0]],[.func 168 [] [.fptr true [.v (.int .i64 v5)] 0,.fptr true [.func 162 [] [.fptr true [.list 1 (v6.map e_i)] 0,.fptr true [.v (.int .i64 v7)] 0,.fptr true [.v (.int .i64 v8)] 0]] 0]]]] ⟨[.v (.int .i64 v9)],[]⟩:=by
  unfold array_firstError_6760 at hr
  have T:=an y6 <| @e_i.eq_1
  apply Spec.fn Tryz.func63 rfl
  focus (simp [Tryz.f63]<;>exact rfl)
  focus
    refine wc_ T (g:=?_)
    refine TX.unroll ?_
    repeat (first|(with_reducible first|refine mv ?_|refine m12 rfl ?_|refine TO.nil ?_)|((with_reducible first|apply TO.bin|apply TO.ia|apply TO.ld|apply TO.asg|apply TO.mv);(repeat (focus (show _ = _;first|exact k1 rfl|exact k2 rfl|(simp only [zz,y6,e_i,Nat.reduceAdd,Nat.reduceMul,Nat.reduceLeDiff,Nat.reduceEqDiff,tindexAddr,z5,Int.reduceToNat,Int.reduceLE,Int.reduceLT,Int.cast_ofNat_Int,tload,rowOf,partT,List.getElem?_map]<;>exact rfl)|exact rfl)));(with_reducible apply TO.here))|((with_reducible apply TX.region);(focus (simp only [zl]<;>exact rfl));(focus rfl);(try dsimp only))|((with_reducible apply TX.cond_true);(focus rfl);(focus (first|rfl|(simp only [z1,zn];done))))|((with_reducible apply TX.cond_false);(focus rfl);(focus (first|rfl|(simp only [z1,zn];done))))|fail)
    obtain ⟨v10,h1,hr⟩:=bs hr
    apply TO.cal (wn T) rfl goFn168 (array_each_c1_6239_spec h1) rfl rfl rfl
    repeat exact sd T
    refine wa_ T (g:=?_)
    rcases ifs hr with ⟨h2,hr⟩|⟨h2,hr⟩
    · have T:=an h2 T
      refine wa_ T (g:=?_)
      cases hr
      refine ⟨.inr rfl,_,(ry T),?_⟩
      exact wk_ T [] rfl .nil
    · have T:=an h2 T
      refine wa_ T (g:=?_)
      refine TX.unroll ?_
      repeat (first|(with_reducible first|refine mv ?_|refine m12 rfl ?_|refine TO.nil ?_)|((with_reducible first|apply TO.bin|apply TO.ia|apply TO.ld|apply TO.asg|apply TO.mv);(repeat (focus (show _ = _;first|exact k1 rfl|exact k2 rfl|(simp only [zz,y6,e_i,Nat.reduceAdd,Nat.reduceMul,Nat.reduceLeDiff,Nat.reduceEqDiff,tindexAddr,z5,Int.reduceToNat,Int.reduceLE,Int.reduceLT,Int.cast_ofNat_Int,tload,rowOf,partT,List.getElem?_map,h2]<;>exact rfl)|exact rfl)));(with_reducible apply TO.here))|((with_reducible apply TX.region);(focus (simp only [zl]<;>exact rfl));(focus rfl);(try dsimp only))|((with_reducible apply TX.cond_true);(focus rfl);(focus (first|rfl|(simp only [z1,zn,h2];done))))|((with_reducible apply TX.cond_false);(focus rfl);(focus (first|rfl|(simp only [z1,zn,h2];done))))|fail)
      obtain ⟨v11,h3,hr⟩:=bs hr
      apply TO.cal (wn T) rfl goFn168 (array_each_c1_6239_spec h3) rfl rfl rfl
      repeat exact sd T
      refine wa_ T (g:=?_)
      rcases ifs hr with ⟨h4,hr⟩|⟨h4,hr⟩
      · have T:=an h4 T
        refine wa_ T (g:=?_)
        cases hr
        refine ⟨.inr rfl,_,(ry T),?_⟩
        exact wk_ T [] rfl .nil
      · have T:=an h4 T
        refine wa_ T (g:=?_)
        refine TX.unroll ?_
        refine wa_ T (g:=?_)
        cases hr
        refine ⟨.inr rfl,_,(ry T),?_⟩
        exact wk_ T [] rfl .nil
  rfl

end Go.Rex

namespace Go.Rex
open Go.Proofs
open Go Go.Rex Go.RowKit
set_option maxRecDepth 100000
set_option maxHeartbeats 200000
def y7:=an @ag38 <| an @cs121 <| an @cs38 <| an @fd129_0 <| an @fd129_1 <| an @ok38 <| an @so182 <| @zc121
theorem array_way_check_spec {v1 : Int} {v2 : Int} {v3 : Int} {v4 : Int} {v5 : Int} {v6 : Int} {v7 : Int} (hr : array_way_check v1 v2 v3 v4 v5 v6 = some (v7)) : Spec (lim Tryz.prog) 74 [.agg [.v (.int .i64 v1),.v (.int .i64 v2),.v (.int .i64 v3),.v (.int .i64 v4),.v (.int .i64 v5),.v (.int .i64 v6)]] ⟨[.v (.int .i64 v7)],[]⟩:=by
  unfold array_way_check at hr
  have T:=y7
  apply Spec.fn Tryz.func74 rfl
  focus (simp [Tryz.f74]<;>exact rfl)
  focus
    refine wB T (g:=?_)
    obtain ⟨⟨v8,v9,v10,v11⟩,h1,hr⟩:=bs hr
    try dsimp only at hr
    first|apply TD.cal (wn T) rfl goFn67 (array_placed_spec h1) rfl rfl rfl|apply TD.calw (wn T) rfl goFn67 (array_placed_spec h1) rfl rfl rfl rfl
    repeat exact sd T
    refine wA T (g:=?_)
    obtain ⟨⟨v12,v13,v14,v15⟩,h2,hr⟩:=bs hr
    try dsimp only at hr
    first|apply TD.cal (wn T) rfl goFn67 (array_placed_spec h2) rfl rfl rfl|apply TD.calw (wn T) rfl goFn67 (array_placed_spec h2) rfl rfl rfl rfl
    repeat exact sd T
    refine we_ T (g:=?_)
    obtain ⟨v16,h3,hr⟩:=bs hr
    first|apply TD.cal (wn T) rfl goFn63 (array_firstError_6760_spec h3) rfl rfl rfl|apply TD.calw (wn T) rfl goFn63 (array_firstError_6760_spec h3) rfl rfl rfl rfl
    repeat exact sd T
    refine wa_ T (g:=?_)
    cases hr
    refine ⟨.inr rfl,_,(ry T),?_⟩
    exact wr [] rfl .nil
  rfl

end Go.Rex

namespace Go.Rex
open Go.Proofs
open Go Go.Rex Go.RowKit
set_option maxRecDepth 100000
set_option maxHeartbeats 200000
def y8:=an @ag121 <| an @cs121 <| an @ok121 <| an @so182 <| an @wi64_0a1 <| @wi64_1a1
theorem array_firstError_751b_spec {v1 : Bool} {v2 : Int} {v3 : Bool} {v4 : Int} {v5 : Int} (hr : array_firstError_751b v1 v2 v3 v4 = some (v5)) : Spec (lim Tryz.prog) 63 [.list 1 [[.func 126 [] [.fptr true [.v (.bool v1)] 0,.fptr true [.v (.int .i64 v2)] 0]],[.func 126 [] [.fptr true [.v (.bool v3)] 0,.fptr true [.v (.int .i64 v4)] 0]]]] ⟨[.v (.int .i64 v5)],[]⟩:=by
  unfold array_firstError_751b at hr
  have T:=y8
  apply Spec.fn Tryz.func63 rfl
  focus (simp [Tryz.f63]<;>exact rfl)
  focus
    refine wc_ T (g:=?_)
    refine TX.unroll ?_
    repeat (first|(with_reducible first|refine mv ?_|refine m12 rfl ?_|refine TO.nil ?_)|((with_reducible first|apply TO.bin|apply TO.ia|apply TO.ld|apply TO.asg|apply TO.mv);(repeat (focus (show _ = _;first|exact k1 rfl|exact k2 rfl|(simp only [zz,y8,Nat.reduceAdd,Nat.reduceMul,Nat.reduceLeDiff,Nat.reduceEqDiff,tindexAddr,z5,Int.reduceToNat,Int.reduceLE,Int.reduceLT,Int.cast_ofNat_Int,tload,rowOf,partT,List.getElem?_map]<;>exact rfl)|exact rfl)));(with_reducible apply TO.here))|((with_reducible apply TX.region);(focus (simp only [zl]<;>exact rfl));(focus rfl);(try dsimp only))|((with_reducible apply TX.cond_true);(focus rfl);(focus (first|rfl|(simp only [z1,zn];done))))|((with_reducible apply TX.cond_false);(focus rfl);(focus (first|rfl|(simp only [z1,zn];done))))|fail)
    obtain ⟨v6,h1,hr⟩:=bs hr
    apply TO.cal (wn T) rfl goFn126 (array_refuse_c1_11f9_spec h1) rfl rfl rfl
    repeat exact sd T
    refine wa_ T (g:=?_)
    rcases ifs hr with ⟨h2,hr⟩|⟨h2,hr⟩
    · have T:=an h2 T
      refine wa_ T (g:=?_)
      cases hr
      refine ⟨.inr rfl,_,(ry T),?_⟩
      exact wk_ T [] rfl .nil
    · have T:=an h2 T
      refine wa_ T (g:=?_)
      refine TX.unroll ?_
      repeat (first|(with_reducible first|refine mv ?_|refine m12 rfl ?_|refine TO.nil ?_)|((with_reducible first|apply TO.bin|apply TO.ia|apply TO.ld|apply TO.asg|apply TO.mv);(repeat (focus (show _ = _;first|exact k1 rfl|exact k2 rfl|(simp only [zz,y8,Nat.reduceAdd,Nat.reduceMul,Nat.reduceLeDiff,Nat.reduceEqDiff,tindexAddr,z5,Int.reduceToNat,Int.reduceLE,Int.reduceLT,Int.cast_ofNat_Int,tload,rowOf,partT,List.getElem?_map,h2]<;>exact rfl)|exact rfl)));(with_reducible apply TO.here))|((with_reducible apply TX.region);(focus (simp only [zl]<;>exact rfl));(focus rfl);(try dsimp only))|((with_reducible apply TX.cond_true);(focus rfl);(focus (first|rfl|(simp only [z1,zn,h2];done))))|((with_reducible apply TX.cond_false);(focus rfl);(focus (first|rfl|(simp only [z1,zn,h2];done))))|fail)
      obtain ⟨v7,h3,hr⟩:=bs hr
      apply TO.cal (wn T) rfl goFn126 (array_refuse_c1_11f9_spec h3) rfl rfl rfl
      repeat exact sd T
      refine wa_ T (g:=?_)
      rcases ifs hr with ⟨h4,hr⟩|⟨h4,hr⟩
      · have T:=an h4 T
        refine wa_ T (g:=?_)
        cases hr
        refine ⟨.inr rfl,_,(ry T),?_⟩
        exact wk_ T [] rfl .nil
      · have T:=an h4 T
        refine wa_ T (g:=?_)
        refine TX.unroll ?_
        refine wa_ T (g:=?_)
        cases hr
        refine ⟨.inr rfl,_,(ry T),?_⟩
        exact wk_ T [] rfl .nil
  rfl

end Go.Rex

namespace Go.Rex
open Go.Proofs
open Go Go.Rex Go.RowKit
set_option maxRecDepth 100000
set_option maxHeartbeats 200000
def y9:=an @ag3 <| an @cs121 <| an @fd43_0 <| an @fd43_1 <| an @so182 <| @zc121
theorem array_audible_c1_eebc_spec {v1 : Int} {v2 : Int} {v3 : Int} (hr : array_audible_c1_eebc v1 v2 = some (v3)) : Spec (lim Tryz.prog) 122 [.fptr true [.v (.int .i64 v1),.v (.int .i64 v2)] 0] ⟨[.v (.int .i64 v3)],[]⟩:=by
  unfold array_audible_c1_eebc at hr
  have T:=y9
  apply Spec.fn Tryz.func122 rfl
  focus (simp [Tryz.f122]<;>exact rfl)
  focus
    refine wA T (g:=?_)
    obtain ⟨⟨v4,v5⟩,h1,hr⟩:=bs hr
    try dsimp only at hr
    first|apply TD.cal (wn T) rfl goFn100 (array_within_spec h1) rfl rfl rfl|apply TD.calw (wn T) rfl goFn100 (array_within_spec h1) rfl rfl rfl rfl
    repeat exact sd T
    refine wA T (g:=?_)
    obtain ⟨⟨v6,v7⟩,h2,hr⟩:=bs hr
    try dsimp only at hr
    first|apply TD.cal (wn T) rfl goFn100 (array_within_spec h2) rfl rfl rfl|apply TD.calw (wn T) rfl goFn100 (array_within_spec h2) rfl rfl rfl rfl
    repeat exact sd T
    refine we_ T (g:=?_)
    obtain ⟨v8,h3,hr⟩:=bs hr
    first|apply TD.cal (wn T) rfl goFn63 (array_firstError_751b_spec h3) rfl rfl rfl|apply TD.calw (wn T) rfl goFn63 (array_firstError_751b_spec h3) rfl rfl rfl rfl
    repeat exact sd T
    refine wa_ T (g:=?_)
    cases hr
    refine ⟨.inr rfl,_,(ry T),?_⟩
    exact wr [] rfl .nil
  rfl

end Go.Rex

namespace Go.Rex
open Go.Proofs
open Go Go.Rex Go.RowKit
set_option maxRecDepth 100000
set_option maxHeartbeats 200000
def y10:=an @ag121 <| an @cs121 <| an @ok121 <| an @so182 <| an @wi64_0a1 <| @wi64_1a1
theorem array_firstError_660f_spec {v1 : Int} {v2 : Int} {v3 : Int} {v4 : Int} {v5 : Int} {v6 : Int} {v7 : Int} {v8 : Int} {v9 : Int} (hr : array_firstError_660f v1 v2 v3 v4 v5 v6 v7 v8 = some (v9)) : Spec (lim Tryz.prog) 63 [.list 1 [[.func 74 [.agg [.v (.int .i64 v1),.v (.int .i64 v2),.v (.int .i64 v3),.v (.int .i64 v4),.v (.int .i64 v5),.v (.int .i64 v6)]] []],[.func 122 [] [.fptr true [.v (.int .i64 v7),.v (.int .i64 v8)] 0]]]] ⟨[.v (.int .i64 v9)],[]⟩:=by
  unfold array_firstError_660f at hr
  have T:=y10
  apply Spec.fn Tryz.func63 rfl
  focus (simp [Tryz.f63]<;>exact rfl)
  focus
    refine wc_ T (g:=?_)
    refine TX.unroll ?_
    repeat (first|(with_reducible first|refine mv ?_|refine m12 rfl ?_|refine TO.nil ?_)|((with_reducible first|apply TO.bin|apply TO.ia|apply TO.ld|apply TO.asg|apply TO.mv);(repeat (focus (show _ = _;first|exact k1 rfl|exact k2 rfl|(simp only [zz,y10,Nat.reduceAdd,Nat.reduceMul,Nat.reduceLeDiff,Nat.reduceEqDiff,tindexAddr,z5,Int.reduceToNat,Int.reduceLE,Int.reduceLT,Int.cast_ofNat_Int,tload,rowOf,partT,List.getElem?_map]<;>exact rfl)|exact rfl)));(with_reducible apply TO.here))|((with_reducible apply TX.region);(focus (simp only [zl]<;>exact rfl));(focus rfl);(try dsimp only))|((with_reducible apply TX.cond_true);(focus rfl);(focus (first|rfl|(simp only [z1,zn];done))))|((with_reducible apply TX.cond_false);(focus rfl);(focus (first|rfl|(simp only [z1,zn];done))))|fail)
    obtain ⟨v10,h1,hr⟩:=bs hr
    apply TO.cal (wn T) rfl goFn74 (array_way_check_spec h1) rfl rfl rfl
    repeat exact sd T
    refine wa_ T (g:=?_)
    rcases ifs hr with ⟨h2,hr⟩|⟨h2,hr⟩
    · have T:=an h2 T
      refine wa_ T (g:=?_)
      cases hr
      refine ⟨.inr rfl,_,(ry T),?_⟩
      exact wk_ T [] rfl .nil
    · have T:=an h2 T
      refine wa_ T (g:=?_)
      refine TX.unroll ?_
      repeat (first|(with_reducible first|refine mv ?_|refine m12 rfl ?_|refine TO.nil ?_)|((with_reducible first|apply TO.bin|apply TO.ia|apply TO.ld|apply TO.asg|apply TO.mv);(repeat (focus (show _ = _;first|exact k1 rfl|exact k2 rfl|(simp only [zz,y10,Nat.reduceAdd,Nat.reduceMul,Nat.reduceLeDiff,Nat.reduceEqDiff,tindexAddr,z5,Int.reduceToNat,Int.reduceLE,Int.reduceLT,Int.cast_ofNat_Int,tload,rowOf,partT,List.getElem?_map,h2]<;>exact rfl)|exact rfl)));(with_reducible apply TO.here))|((with_reducible apply TX.region);(focus (simp only [zl]<;>exact rfl));(focus rfl);(try dsimp only))|((with_reducible apply TX.cond_true);(focus rfl);(focus (first|rfl|(simp only [z1,zn,h2];done))))|((with_reducible apply TX.cond_false);(focus rfl);(focus (first|rfl|(simp only [z1,zn,h2];done))))|fail)
      obtain ⟨v11,h3,hr⟩:=bs hr
      apply TO.cal (wn T) rfl goFn122 (array_audible_c1_eebc_spec h3) rfl rfl rfl
      repeat exact sd T
      refine wa_ T (g:=?_)
      rcases ifs hr with ⟨h4,hr⟩|⟨h4,hr⟩
      · have T:=an h4 T
        refine wa_ T (g:=?_)
        cases hr
        refine ⟨.inr rfl,_,(ry T),?_⟩
        exact wk_ T [] rfl .nil
      · have T:=an h4 T
        refine wa_ T (g:=?_)
        refine TX.unroll ?_
        refine wa_ T (g:=?_)
        cases hr
        refine ⟨.inr rfl,_,(ry T),?_⟩
        exact wk_ T [] rfl .nil
  rfl

end Go.Rex

namespace Go.Rex
open Go.Proofs
open Go Go.Rex Go.RowKit
set_option maxRecDepth 100000
set_option maxHeartbeats 200000
def y11:=an @ag3 <| an @fd129_0 <| an @fd129_1 <| an @fd38_0 <| an @fd38_1 <| @fd38_2
theorem array_way_square_spec {v1 : Int} {v2 : Int} {v3 : Int} {v4 : Int} {v5 : Int} {v6 : Int} {v7 : Int} (hr : array_way_square v1 v2 v3 v4 v5 v6 = some (v7)) : Spec (lim Tryz.prog) 131 [.agg [.v (.int .i64 v1),.v (.int .i64 v2),.v (.int .i64 v3),.v (.int .i64 v4),.v (.int .i64 v5),.v (.int .i64 v6)]] ⟨[.v (.int .i64 v7)],[]⟩:=by
  unfold array_way_square at hr
  have T:=y11
  apply Spec.fn Tryz.func131 rfl
  focus (simp [Tryz.f131]<;>exact rfl)
  focus
    refine wB T (g:=?_)
    cases hr
    refine ⟨.inr rfl,_,(ry T),?_⟩
    exact wr [] rfl .nil
  rfl

end Go.Rex

namespace Go.Rex
open Go.Proofs
open Go Go.Rex Go.RowKit
set_option maxRecDepth 100000
set_option maxHeartbeats 200000
def y12:=@ag3
theorem array_root_c1_d3d3_spec {v1 : Int} {v2 : Int} {v3 : Bool} (hr : array_root_c1_d3d3 v1 v2 = some (v3)) : Spec (lim Tryz.prog) 167 [.v (.int .i64 v1),.fptr true [.v (.int .i64 v2)] 0] ⟨[.v (.bool v3)],[]⟩:=by
  unfold array_root_c1_d3d3 at hr
  have T:=y12
  apply Spec.fn Tryz.func167 rfl
  focus (simp [Tryz.f167]<;>exact rfl)
  focus
    refine wA T (g:=?_)
    cases hr
    refine ⟨.inr rfl,_,(ry T),?_⟩
    exact wr [] rfl .nil
  rfl

end Go.Rex

namespace Go.Rex
open Go.Proofs
open Go Go.Rex Go.RowKit
set_option maxRecDepth 100000
set_option maxHeartbeats 200000
def y13:=an @un219 <| @un3
theorem sort_Search_2a44_spec {v1 : Int} {v2 : Int} {v3 : Int} (hr : sort_Search_2a44 v1 v2 = some (v3)) : Spec (lim Tryz.prog) 166 [.v (.int .i64 v1),.func 167 [] [.fptr true [.v (.int .i64 v2)] 0]] ⟨[.v (.int .i64 v3)],[]⟩:=by
  unfold sort_Search_2a44 at hr
  have T:=y13
  apply Spec.fn Tryz.func166 rfl
  focus (simp [Tryz.f166]<;>exact rfl)
  focus
    refine wa_ T (g:=?_)
    obtain ⟨v11,h9,hr⟩:=bs hr
    refine TX.loopE (step:=sort_Search_2a44_l1 v2) (x:=(0,v1)) h9 (fun (v4,v5)=>⟨.junk :: .func 167 [] [.fptr true [.v (.int .i64 v2)] 0] :: .junk :: .junk :: .junk :: .v (.int .i64 v4) :: .v (.int .i64 v5) :: .junk :: .junk :: .junk :: .junk :: .junk :: .junk :: .junk :: .junk :: .junk :: .junk :: .junk :: .junk :: .junk :: .junk :: .junk :: .junk :: .junk :: .junk :: .junk :: [],[]⟩) (fun v8=>(.exit 0,⟨.junk :: .junk :: .junk :: .junk :: .junk :: .v (.int .i64 v8) :: .junk :: .junk :: .junk :: .junk :: .junk :: .junk :: .junk :: .junk :: .junk :: .junk :: .junk :: .junk :: .junk :: .junk :: .junk :: .junk :: .junk :: .junk :: .junk :: .junk :: [],[]⟩)) ?_ ?_ ?_ ?_
    · rintro ⟨v4,v5⟩ v0 hr
      dsimp only [sort_Search_2a44_l1] at hr
      try dsimp only
      refine wa_ T (g:=?_)
      rcases ifs hr with ⟨h5,hr⟩|⟨h5,hr⟩
      · have T:=an h5 T
        refine wa_ T (g:=?_)
        apply TO.pop1 (wn T) (cvt_int_int un3 un219 rfl)
        repeat exact sd T
        refine wa_ T (g:=?_)
        obtain ⟨v9,h6,hr⟩:=bs hr
        apply TO.pop1 (wn T) (pop_shift rfl rfl (by decide) (h6))
        repeat exact sd T
        refine wa_ T (g:=?_)
        apply TO.pop1 (wn T) (cvt_int_int un219 un3 rfl)
        repeat exact sd T
        refine wa_ T (g:=?_)
        obtain ⟨v10,h7,hr⟩:=bs hr
        apply TO.cal (wn T) rfl goFn167 (array_root_c1_d3d3_spec h7) rfl rfl rfl
        repeat exact sd T
        refine wa_ T (g:=?_)
        apply TO.pop1 (wn T) (pop_not rfl)
        repeat exact sd T
        refine wa_ T (g:=?_)
        rcases ifs hr with ⟨h8,hr⟩|⟨h8,hr⟩
        · have T:=an h8 T
          refine wa_ T (g:=?_)
          cases hr
          refine ⟨rfl,?_⟩
          exact wk_ T [] rfl .nil
        · have T:=an h8 T
          refine wa_ T (g:=?_)
          cases hr
          refine ⟨rfl,?_⟩
          exact wk_ T [] rfl .nil
      · have T:=an h5 T
        refine wa_ T (g:=?_)
        cases hr
        refine ⟨rfl,?_⟩
        exact wk_ T [] rfl .nil
    · intro e h;cases h
    · try dsimp only
      refine wa_ T (g:=?_)
      cases hr
      refine ⟨.inr rfl,_,(ry T),?_⟩
      exact wr [] rfl .nil
    · try dsimp only
      exact wr [] rfl .nil
  rfl

end Go.Rex

namespace Go.Rex
open Go.Proofs
open Go Go.Rex Go.RowKit
set_option maxRecDepth 100000
set_option maxHeartbeats 200000
def y14:=an @ag3 <| an @ag45 <| an @cs45 <| an @ok45 <| an @st45 <| @zc45
theorem array_root_spec {v1 : Int} {v2 : Int} {v3 : Int} (hr : array_root v1 = some (v2,v3)) : Spec (lim Tryz.prog) 140 [.v (.int .i64 v1)] ⟨[.agg [.v (.int .i64 v2),.v (.int .i64 v3)]],[]⟩:=by
  unfold array_root at hr
  have T:=y14
  apply Spec.fn Tryz.func140 rfl
  focus (simp [Tryz.f140]<;>exact rfl)
  focus
    refine wb_ T (g:=?_)
    obtain ⟨v4,h1,hr⟩:=bs hr
    apply TO.cal (wn T) rfl goFn166 (sort_Search_2a44_spec h1) rfl rfl rfl
    repeat exact sd T
    refine wA T (g:=?_)
    rcases ifs hr with ⟨h2,hr⟩|⟨h2,hr⟩
    · have T:=an h2 T
      refine wa_ T (g:=?_)
      cases hr
      refine ⟨.inr rfl,_,(ry T),?_⟩
      exact wk_ T [] rfl .nil
    · have T:=an h2 T
      refine wa_ T (g:=?_)
      cases hr
      refine ⟨.inr rfl,_,(ry T),?_⟩
      exact wk_ T [] rfl .nil
  rfl

end Go.Rex

namespace Go.Rex
open Go.Proofs
open Go Go.Rex Go.RowKit
set_option maxRecDepth 100000
set_option maxHeartbeats 200000
def y15:=an @ag129 <| an @ag45 <| an @cs129 <| an @cs45 <| an @ok129 <| an @ok45 <| @zc45
theorem array_way_length_spec {v1 : Int} {v2 : Int} {v3 : Int} {v4 : Int} {v5 : Int} {v6 : Int} {v7 : Int} {v8 : Int} (hr : array_way_length v1 v2 v3 v4 v5 v6 = some (v7,v8)) : Spec (lim Tryz.prog) 129 [.agg [.v (.int .i64 v1),.v (.int .i64 v2),.v (.int .i64 v3),.v (.int .i64 v4),.v (.int .i64 v5),.v (.int .i64 v6)]] ⟨[.agg [.v (.int .i64 v7),.v (.int .i64 v8)]],[]⟩:=by
  unfold array_way_length at hr
  have T:=y15
  apply Spec.fn Tryz.func129 rfl
  focus (simp [Tryz.f129]<;>exact rfl)
  focus
    refine wB T (g:=?_)
    obtain ⟨v9,h1,hr⟩:=bs hr
    apply TO.cal (wn T) rfl goFn131 (array_way_square_spec h1) rfl rfl rfl
    repeat exact sd T
    refine wa_ T (g:=?_)
    obtain ⟨⟨v10,v11⟩,h2,hr⟩:=bs hr
    try dsimp only at hr
    apply TO.cal (wn T) rfl goFn140 (array_root_spec h2) rfl rfl rfl
    repeat exact sd T
    refine wa_ T (g:=?_)
    cases hr
    refine ⟨.inr rfl,_,(ry T),?_⟩
    exact wr [] rfl .nil
  rfl

end Go.Rex

namespace Go.Rex
open Go.Proofs
open Go Go.Rex Go.RowKit
set_option maxRecDepth 100000
set_option maxHeartbeats 200000
theorem array_up_spec {v1 : Int} {v2 : Int} {v3 : Int} (hr : array_up v1 v2 = some (v3)) : Spec (lim Tryz.prog) 132 [.v (.int .i64 v1),.v (.int .i64 v2)] ⟨[.v (.int .i64 v3)],[]⟩:=by
  unfold array_up at hr
  have T:=trivial
  apply Spec.fn Tryz.func132 rfl
  focus (simp [Tryz.f132]<;>exact rfl)
  focus
    refine wa_ T (g:=?_)
    by_cases h1 : v2 = 0
    · rw [if_pos h1] at hr
      cases hr
    · rw [if_neg h1] at hr
      have T:=an h1 T
      refine wa_ T (g:=?_)
      cases hr
      refine ⟨.inr rfl,_,(ry T),?_⟩
      exact wr [] rfl .nil
  rfl

end Go.Rex

namespace Go.Rex
open Go.Proofs
open Go Go.Rex Go.RowKit
set_option maxRecDepth 100000
set_option maxHeartbeats 200000
def y16:=an @ag3 <| an @ag45 <| an @cs45 <| an @fd45_0 <| an @fd45_1 <| an @ok45 <| an @st45 <| @zc45
theorem array_scaled_spec {v1 : Int} {v2 : Int} {v3 : Int} {v4 : Int} {v5 : Int} {v6 : Int} (hr : array_scaled v1 v2 v3 v4 = some (v5,v6)) : Spec (lim Tryz.prog) 128 [.agg [.v (.int .i64 v1),.v (.int .i64 v2)],.v (.int .i64 v3),.v (.int .i64 v4)] ⟨[.agg [.v (.int .i64 v5),.v (.int .i64 v6)]],[]⟩:=by
  unfold array_scaled at hr
  have T:=y16
  apply Spec.fn Tryz.func128 rfl
  focus (simp [Tryz.f128]<;>exact rfl)
  focus
    refine wB T (g:=?_)
    by_cases h1 : v4 = 0
    · rw [if_pos h1] at hr
      cases hr
    · rw [if_neg h1] at hr
      have T:=an h1 T
      refine wA T (g:=?_)
      obtain ⟨v7,h2,hr⟩:=bs hr
      first|apply TD.cal (wn T) rfl goFn132 (array_up_spec h2) rfl rfl rfl|apply TD.calw (wn T) rfl goFn132 (array_up_spec h2) rfl rfl rfl rfl
      repeat exact sd T
      refine wa_ T (g:=?_)
      cases hr
      refine ⟨.inr rfl,_,(ry T),?_⟩
      exact wr [] rfl .nil
  rfl

end Go.Rex

namespace Go.Rex
open Go.Proofs
open Go Go.Rex Go.RowKit
set_option maxRecDepth 100000
set_option maxHeartbeats 200000
def y17:=an @ag129 <| an @ag3 <| an @ag45 <| an @cs129 <| an @cs45 <| an @fd43_0 <| an @fd43_1 <| an @ok129 <| an @ok45 <| @zc45
theorem array_way_travel_spec {v1 : Int} {v2 : Int} {v3 : Int} {v4 : Int} {v5 : Int} {v6 : Int} {v7 : Int} {v8 : Int} {v9 : Int} {v10 : Int} (hr : array_way_travel v1 v2 v3 v4 v5 v6 v7 v8 = some (v9,v10)) : Spec (lim Tryz.prog) 75 [.agg [.v (.int .i64 v1),.v (.int .i64 v2),.v (.int .i64 v3),.v (.int .i64 v4),.v (.int .i64 v5),.v (.int .i64 v6)],.agg [.v (.int .i64 v7),.v (.int .i64 v8)]] ⟨[.agg [.v (.int .i64 v9),.v (.int .i64 v10)]],[]⟩:=by
  unfold array_way_travel at hr
  have T:=y17
  apply Spec.fn Tryz.func75 rfl
  focus (simp [Tryz.f75]<;>exact rfl)
  focus
    refine wB T (g:=?_)
    obtain ⟨⟨v11,v12⟩,h1,hr⟩:=bs hr
    try dsimp only at hr
    first|apply TD.cal (wn T) rfl goFn129 (array_way_length_spec h1) rfl rfl rfl|apply TD.calw (wn T) rfl goFn129 (array_way_length_spec h1) rfl rfl rfl rfl
    repeat exact sd T
    refine wA T (g:=?_)
    obtain ⟨⟨v13,v14⟩,h2,hr⟩:=bs hr
    try dsimp only at hr
    first|apply TD.cal (wn T) rfl goFn128 (array_scaled_spec h2) rfl rfl rfl|apply TD.calw (wn T) rfl goFn128 (array_scaled_spec h2) rfl rfl rfl rfl
    repeat exact sd T
    refine wa_ T (g:=?_)
    cases hr
    refine ⟨.inr rfl,_,(ry T),?_⟩
    exact wr [] rfl .nil
  rfl

end Go.Rex

namespace Go.Rex
open Go.Proofs
open Go Go.Rex Go.RowKit
set_option maxRecDepth 100000
set_option maxHeartbeats 200000
def y18:=an @ag129 <| an @ag38 <| an @ag43 <| an @ag45 <| an @cs121 <| an @cs129 <| an @cs38 <| an @cs43 <| an @cs45 <| an @ok129 <| an @ok38 <| an @ok43 <| an @ok45 <| an @so182 <| an @st129 <| an @st45 <| an @zc121 <| an @zc129 <| @zc45
theorem array_Travel_spec {v1 : Int} {v2 : Int} {v3 : Int} {v4 : Int} {v5 : Int} {v6 : Int} {v7 : Int} {v8 : Int} {v9 : Int} {v10 : Int} {v11 : Int} (hr : array_Travel v1 v2 v3 v4 v5 v6 v7 v8 = some (v9,v10,v11)) : Spec (lim Tryz.prog) 19 [.agg [.v (.int .i64 v1),.v (.int .i64 v2),.v (.int .i64 v3)],.agg [.v (.int .i64 v4),.v (.int .i64 v5),.v (.int .i64 v6)],.agg [.v (.int .i64 v7),.v (.int .i64 v8)]] ⟨[.tuple [.agg [.v (.int .i64 v9),.v (.int .i64 v10)],.v (.int .i64 v11)]],[]⟩:=by
  unfold array_Travel at hr
  have T:=y18
  apply Spec.fn Tryz.func19 rfl
  focus (simp [Tryz.f19]<;>exact rfl)
  focus
    refine wB T (g:=?_)
    obtain ⟨⟨v12,v13⟩,h1,hr⟩:=bs hr
    try dsimp only at hr
    first|apply TD.cal (wn T) rfl goFn64 (array_audible_spec h1) rfl rfl rfl|apply TD.calw (wn T) rfl goFn64 (array_audible_spec h1) rfl rfl rfl rfl
    repeat exact sd T
    refine we_ T (g:=?_)
    obtain ⟨v14,h2,hr⟩:=bs hr
    first|apply TD.cal (wn T) rfl goFn63 (array_firstError_660f_spec h2) rfl rfl rfl|apply TD.calw (wn T) rfl goFn63 (array_firstError_660f_spec h2) rfl rfl rfl rfl
    repeat exact sd T
    refine wa_ T (g:=?_)
    rcases ifs hr with ⟨h3,hr⟩|⟨h3,hr⟩
    · have T:=an h3 T
      refine wa_ T (g:=?_)
      cases hr
      refine ⟨.inr rfl,_,(ry T),?_⟩
      exact wk_ T [] rfl .nil
    · have T:=an h3 T
      refine wA T (g:=?_)
      obtain ⟨⟨v15,v16⟩,h4,hr⟩:=bs hr
      try dsimp only at hr
      apply TO.cal (wn T) rfl goFn75 (array_way_travel_spec h4) rfl rfl rfl
      repeat exact sd T
      refine wa_ T (g:=?_)
      cases hr
      refine ⟨.inr rfl,_,(ry T),?_⟩
      exact wk_ T [] rfl .nil
  rfl

end Go.Rex

namespace Go.Rex
open Go.Proofs
open Go Go.Rex Go.RowKit
set_option maxRecDepth 100000
set_option maxHeartbeats 200000
theorem array_way_numbers_c1_spec {v1 : Int} {v2 : Int} (hr : array_way_numbers_c1 v1 = some (v2)) : Spec (lim Tryz.prog) 130 [.v (.int .i64 v1)] ⟨[.v (.int .i64 v2)],[]⟩:=by
  unfold array_way_numbers_c1 at hr
  have T:=trivial
  apply Spec.fn Tryz.func130 rfl
  focus (simp [Tryz.f130]<;>exact rfl)
  focus
    refine wa_ T (g:=?_)
    cases hr
    refine ⟨.inr rfl,_,(ry T),?_⟩
    exact wr [] rfl .nil
  rfl

end Go.Rex

namespace Go.Rex
open Go.Proofs
open Go Go.Rex Go.RowKit
set_option maxRecDepth 100000
set_option maxHeartbeats 200000
def y19:=an @ag129 <| an @ag3 <| an @ag45 <| an @cs129 <| an @cs45 <| an @fd43_0 <| an @fd43_1 <| an @fd45_0 <| an @fd45_1 <| an @ok129 <| an @ok45 <| an @st45 <| @zc45
theorem array_way_numbers_spec {v1 : Int} {v2 : Int} {v3 : Int} {v4 : Int} {v5 : Int} {v6 : Int} {v7 : Int} {v8 : Int} {v9 : Int} {v10 : Int} (hr : array_way_numbers v1 v2 v3 v4 v5 v6 v7 v8 = some (v9,v10)) : Spec (lim Tryz.prog) 76 [.agg [.v (.int .i64 v1),.v (.int .i64 v2),.v (.int .i64 v3),.v (.int .i64 v4),.v (.int .i64 v5),.v (.int .i64 v6)],.agg [.v (.int .i64 v7),.v (.int .i64 v8)]] ⟨[.agg [.v (.int .i64 v9),.v (.int .i64 v10)]],[]⟩:=by
  unfold array_way_numbers at hr
  have T:=y19
  apply Spec.fn Tryz.func76 rfl
  focus (simp [Tryz.f76]<;>exact rfl)
  focus
    refine wB T (g:=?_)
    obtain ⟨⟨v11,v12⟩,h1,hr⟩:=bs hr
    try dsimp only at hr
    first|apply TD.cal (wn T) rfl goFn129 (array_way_length_spec h1) rfl rfl rfl|apply TD.calw (wn T) rfl goFn129 (array_way_length_spec h1) rfl rfl rfl rfl
    repeat exact sd T
    refine wA T (g:=?_)
    obtain ⟨⟨v13,v14⟩,h2,hr⟩:=bs hr
    try dsimp only at hr
    first|apply TD.cal (wn T) rfl goFn128 (array_scaled_spec h2) rfl rfl rfl|apply TD.calw (wn T) rfl goFn128 (array_scaled_spec h2) rfl rfl rfl rfl
    repeat exact sd T
    refine wA T (g:=?_)
    obtain ⟨v15,h3,hr⟩:=bs hr
    first|apply TD.cal (wn T) rfl goFn130 (array_way_numbers_c1_spec h3) rfl rfl rfl|apply TD.calw (wn T) rfl goFn130 (array_way_numbers_c1_spec h3) rfl rfl rfl rfl
    repeat exact sd T
    refine wA T (g:=?_)
    obtain ⟨v16,h4,hr⟩:=bs hr
    first|apply TD.cal (wn T) rfl goFn130 (array_way_numbers_c1_spec h4) rfl rfl rfl|apply TD.calw (wn T) rfl goFn130 (array_way_numbers_c1_spec h4) rfl rfl rfl rfl
    repeat exact sd T
    refine wa_ T (g:=?_)
    cases hr
    refine ⟨.inr rfl,_,(ry T),?_⟩
    exact wr [] rfl .nil
  rfl

end Go.Rex

namespace Go.Rex
open Go.Proofs
open Go Go.Rex Go.RowKit
set_option maxRecDepth 100000
set_option maxHeartbeats 200000
def y20:=an @ag129 <| an @ag38 <| an @ag43 <| an @ag45 <| an @cs121 <| an @cs129 <| an @cs38 <| an @cs43 <| an @cs45 <| an @ok129 <| an @ok38 <| an @ok43 <| an @ok45 <| an @so182 <| an @st129 <| an @st45 <| an @zc121 <| an @zc129 <| @zc45
theorem array_NumbersOf_spec {v1 : Int} {v2 : Int} {v3 : Int} {v4 : Int} {v5 : Int} {v6 : Int} {v7 : Int} {v8 : Int} {v9 : Int} {v10 : Int} {v11 : Int} (hr : array_NumbersOf v1 v2 v3 v4 v5 v6 v7 v8 = some (v9,v10,v11)) : Spec (lim Tryz.prog) 20 [.agg [.v (.int .i64 v1),.v (.int .i64 v2),.v (.int .i64 v3)],.agg [.v (.int .i64 v4),.v (.int .i64 v5),.v (.int .i64 v6)],.agg [.v (.int .i64 v7),.v (.int .i64 v8)]] ⟨[.tuple [.agg [.v (.int .i64 v9),.v (.int .i64 v10)],.v (.int .i64 v11)]],[]⟩:=by
  unfold array_NumbersOf at hr
  have T:=y20
  apply Spec.fn Tryz.func20 rfl
  focus (simp [Tryz.f20]<;>exact rfl)
  focus
    refine wB T (g:=?_)
    obtain ⟨⟨v12,v13⟩,h1,hr⟩:=bs hr
    try dsimp only at hr
    first|apply TD.cal (wn T) rfl goFn64 (array_audible_spec h1) rfl rfl rfl|apply TD.calw (wn T) rfl goFn64 (array_audible_spec h1) rfl rfl rfl rfl
    repeat exact sd T
    refine we_ T (g:=?_)
    obtain ⟨v14,h2,hr⟩:=bs hr
    first|apply TD.cal (wn T) rfl goFn63 (array_firstError_660f_spec h2) rfl rfl rfl|apply TD.calw (wn T) rfl goFn63 (array_firstError_660f_spec h2) rfl rfl rfl rfl
    repeat exact sd T
    refine wa_ T (g:=?_)
    rcases ifs hr with ⟨h3,hr⟩|⟨h3,hr⟩
    · have T:=an h3 T
      refine wa_ T (g:=?_)
      cases hr
      refine ⟨.inr rfl,_,(ry T),?_⟩
      exact wk_ T [] rfl .nil
    · have T:=an h3 T
      refine wA T (g:=?_)
      obtain ⟨⟨v15,v16⟩,h4,hr⟩:=bs hr
      try dsimp only at hr
      apply TO.cal (wn T) rfl goFn76 (array_way_numbers_spec h4) rfl rfl rfl
      repeat exact sd T
      refine wa_ T (g:=?_)
      cases hr
      refine ⟨.inr rfl,_,(ry T),?_⟩
      exact wk_ T [] rfl .nil
  rfl

end Go.Rex

namespace Go.Rex
open Go.Proofs
open Go Go.Rex Go.RowKit
set_option maxRecDepth 100000
set_option maxHeartbeats 200000
def y21:=an @ag129 <| an @cs129 <| @ok129
theorem array_way_apart_spec {v1 : Int} {v2 : Int} {v3 : Int} {v4 : Int} {v5 : Int} {v6 : Int} {v7 : Int} (hr : array_way_apart v1 v2 v3 v4 v5 v6 = some (v7)) : Spec (lim Tryz.prog) 77 [.agg [.v (.int .i64 v1),.v (.int .i64 v2),.v (.int .i64 v3),.v (.int .i64 v4),.v (.int .i64 v5),.v (.int .i64 v6)]] ⟨[.v (.int .i64 v7)],[]⟩:=by
  unfold array_way_apart at hr
  have T:=y21
  apply Spec.fn Tryz.func77 rfl
  focus (simp [Tryz.f77]<;>exact rfl)
  focus
    refine wB T (g:=?_)
    obtain ⟨v8,h1,hr⟩:=bs hr
    apply TO.cal (wn T) rfl goFn131 (array_way_square_spec h1) rfl rfl rfl
    repeat exact sd T
    refine wa_ T (g:=?_)
    obtain ⟨⟨v9,v10⟩,h2,hr⟩:=bs hr
    try dsimp only at hr
    apply TO.cal (wn T) rfl goFn70 (array_refuse_spec h2) rfl rfl rfl
    repeat exact sd T
    refine wa_ T (g:=?_)
    obtain ⟨v11,h3,hr⟩:=bs hr
    apply TO.cal (wn T) rfl goFn126 (array_refuse_c1_11f9_spec h3) rfl rfl rfl
    repeat exact sd T
    refine wa_ T (g:=?_)
    cases hr
    refine ⟨.inr rfl,_,(ry T),?_⟩
    exact wr [] rfl .nil
  rfl

end Go.Rex

namespace Go.Rex
open Go.Proofs
open Go Go.Rex Go.RowKit
set_option maxRecDepth 100000
set_option maxHeartbeats 200000
def y22:=an @ag121 <| an @cs121 <| an @ok121 <| an @so182 <| an @wi64_0a1 <| @wi64_1a1
theorem array_firstError_937b_spec {v1 : Int} {v2 : Int} {v3 : Int} {v4 : Int} {v5 : Int} {v6 : Int} {v7 : Int} {v8 : Int} {v9 : Int} {v10 : Int} {v11 : Int} {v12 : Int} {v13 : Int} (hr : array_firstError_937b v1 v2 v3 v4 v5 v6 v7 v8 v9 v10 v11 v12 = some (v13)) : Spec (lim Tryz.prog) 63 [.list 1 [[.func 74 [.agg [.v (.int .i64 v1),.v (.int .i64 v2),.v (.int .i64 v3),.v (.int .i64 v4),.v (.int .i64 v5),.v (.int .i64 v6)]] []],[.func 77 [.agg [.v (.int .i64 v7),.v (.int .i64 v8),.v (.int .i64 v9),.v (.int .i64 v10),.v (.int .i64 v11),.v (.int .i64 v12)]] []]]] ⟨[.v (.int .i64 v13)],[]⟩:=by
  unfold array_firstError_937b at hr
  have T:=y22
  apply Spec.fn Tryz.func63 rfl
  focus (simp [Tryz.f63]<;>exact rfl)
  focus
    refine wc_ T (g:=?_)
    refine TX.unroll ?_
    repeat (first|(with_reducible first|refine mv ?_|refine m12 rfl ?_|refine TO.nil ?_)|((with_reducible first|apply TO.bin|apply TO.ia|apply TO.ld|apply TO.asg|apply TO.mv);(repeat (focus (show _ = _;first|exact k1 rfl|exact k2 rfl|(simp only [zz,y22,Nat.reduceAdd,Nat.reduceMul,Nat.reduceLeDiff,Nat.reduceEqDiff,tindexAddr,z5,Int.reduceToNat,Int.reduceLE,Int.reduceLT,Int.cast_ofNat_Int,tload,rowOf,partT,List.getElem?_map]<;>exact rfl)|exact rfl)));(with_reducible apply TO.here))|((with_reducible apply TX.region);(focus (simp only [zl]<;>exact rfl));(focus rfl);(try dsimp only))|((with_reducible apply TX.cond_true);(focus rfl);(focus (first|rfl|(simp only [z1,zn];done))))|((with_reducible apply TX.cond_false);(focus rfl);(focus (first|rfl|(simp only [z1,zn];done))))|fail)
    obtain ⟨v14,h1,hr⟩:=bs hr
    apply TO.cal (wn T) rfl goFn74 (array_way_check_spec h1) rfl rfl rfl
    repeat exact sd T
    refine wa_ T (g:=?_)
    rcases ifs hr with ⟨h2,hr⟩|⟨h2,hr⟩
    · have T:=an h2 T
      refine wa_ T (g:=?_)
      cases hr
      refine ⟨.inr rfl,_,(ry T),?_⟩
      exact wk_ T [] rfl .nil
    · have T:=an h2 T
      refine wa_ T (g:=?_)
      refine TX.unroll ?_
      repeat (first|(with_reducible first|refine mv ?_|refine m12 rfl ?_|refine TO.nil ?_)|((with_reducible first|apply TO.bin|apply TO.ia|apply TO.ld|apply TO.asg|apply TO.mv);(repeat (focus (show _ = _;first|exact k1 rfl|exact k2 rfl|(simp only [zz,y22,Nat.reduceAdd,Nat.reduceMul,Nat.reduceLeDiff,Nat.reduceEqDiff,tindexAddr,z5,Int.reduceToNat,Int.reduceLE,Int.reduceLT,Int.cast_ofNat_Int,tload,rowOf,partT,List.getElem?_map,h2]<;>exact rfl)|exact rfl)));(with_reducible apply TO.here))|((with_reducible apply TX.region);(focus (simp only [zl]<;>exact rfl));(focus rfl);(try dsimp only))|((with_reducible apply TX.cond_true);(focus rfl);(focus (first|rfl|(simp only [z1,zn,h2];done))))|((with_reducible apply TX.cond_false);(focus rfl);(focus (first|rfl|(simp only [z1,zn,h2];done))))|fail)
      obtain ⟨v15,h3,hr⟩:=bs hr
      apply TO.cal (wn T) rfl goFn77 (array_way_apart_spec h3) rfl rfl rfl
      repeat exact sd T
      refine wa_ T (g:=?_)
      rcases ifs hr with ⟨h4,hr⟩|⟨h4,hr⟩
      · have T:=an h4 T
        refine wa_ T (g:=?_)
        cases hr
        refine ⟨.inr rfl,_,(ry T),?_⟩
        exact wk_ T [] rfl .nil
      · have T:=an h4 T
        refine wa_ T (g:=?_)
        refine TX.unroll ?_
        refine wa_ T (g:=?_)
        cases hr
        refine ⟨.inr rfl,_,(ry T),?_⟩
        exact wk_ T [] rfl .nil
  rfl

end Go.Rex

namespace Go.Rex
open Go.Proofs
open Go Go.Rex Go.RowKit
set_option maxRecDepth 100000
set_option maxHeartbeats 200000
def y23:=an @ag129 <| an @ag3 <| an @ag45 <| an @cs129 <| an @cs45 <| an @fd45_0 <| an @fd45_1 <| an @ok129 <| an @ok45 <| an @st45 <| @zc45
theorem array_way_strength_spec {v1 : Int} {v2 : Int} {v3 : Int} {v4 : Int} {v5 : Int} {v6 : Int} {v7 : Int} {v8 : Int} (hr : array_way_strength v1 v2 v3 v4 v5 v6 = some (v7,v8)) : Spec (lim Tryz.prog) 78 [.agg [.v (.int .i64 v1),.v (.int .i64 v2),.v (.int .i64 v3),.v (.int .i64 v4),.v (.int .i64 v5),.v (.int .i64 v6)]] ⟨[.agg [.v (.int .i64 v7),.v (.int .i64 v8)]],[]⟩:=by
  unfold array_way_strength at hr
  have T:=y23
  apply Spec.fn Tryz.func78 rfl
  focus (simp [Tryz.f78]<;>exact rfl)
  focus
    refine wB T (g:=?_)
    obtain ⟨⟨v9,v10⟩,h1,hr⟩:=bs hr
    try dsimp only at hr
    apply TO.cal (wn T) rfl goFn129 (array_way_length_spec h1) rfl rfl rfl
    repeat exact sd T
    refine wA T (g:=?_)
    by_cases h2 : v10 = 0
    · rw [if_pos h2] at hr
      cases hr
    · rw [if_neg h2] at hr
      have T:=an h2 T
      refine wA T (g:=?_)
      obtain ⟨v11,h3,hr⟩:=bs hr
      first|apply TD.cal (wn T) rfl goFn132 (array_up_spec h3) rfl rfl rfl|apply TD.calw (wn T) rfl goFn132 (array_up_spec h3) rfl rfl rfl rfl
      repeat exact sd T
      refine wa_ T (g:=?_)
      cases hr
      refine ⟨.inr rfl,_,(ry T),?_⟩
      exact wr [] rfl .nil
  rfl

end Go.Rex

namespace Go.Rex
open Go.Proofs
open Go Go.Rex Go.RowKit
set_option maxRecDepth 100000
set_option maxHeartbeats 200000
def y24:=an @ag129 <| an @ag38 <| an @ag45 <| an @cs121 <| an @cs129 <| an @cs38 <| an @cs45 <| an @ok129 <| an @ok38 <| an @ok45 <| an @so182 <| an @st129 <| an @st45 <| an @zc121 <| an @zc129 <| @zc45
theorem array_Strength_spec {v1 : Int} {v2 : Int} {v3 : Int} {v4 : Int} {v5 : Int} {v6 : Int} {v7 : Int} {v8 : Int} {v9 : Int} (hr : array_Strength v1 v2 v3 v4 v5 v6 = some (v7,v8,v9)) : Spec (lim Tryz.prog) 21 [.agg [.v (.int .i64 v1),.v (.int .i64 v2),.v (.int .i64 v3)],.agg [.v (.int .i64 v4),.v (.int .i64 v5),.v (.int .i64 v6)]] ⟨[.tuple [.agg [.v (.int .i64 v7),.v (.int .i64 v8)],.v (.int .i64 v9)]],[]⟩:=by
  unfold array_Strength at hr
  have T:=y24
  apply Spec.fn Tryz.func21 rfl
  focus (simp [Tryz.f21]<;>exact rfl)
  focus
    refine wF T (g:=?_)
    obtain ⟨v10,h1,hr⟩:=bs hr
    apply TO.cal (wn T) rfl goFn63 (array_firstError_937b_spec h1) rfl rfl rfl
    repeat exact sd T
    refine wa_ T (g:=?_)
    rcases ifs hr with ⟨h2,hr⟩|⟨h2,hr⟩
    · have T:=an h2 T
      refine wa_ T (g:=?_)
      cases hr
      refine ⟨.inr rfl,_,(ry T),?_⟩
      exact wk_ T [] rfl .nil
    · have T:=an h2 T
      refine wA T (g:=?_)
      obtain ⟨⟨v11,v12⟩,h3,hr⟩:=bs hr
      try dsimp only at hr
      apply TO.cal (wn T) rfl goFn78 (array_way_strength_spec h3) rfl rfl rfl
      repeat exact sd T
      refine wa_ T (g:=?_)
      cases hr
      refine ⟨.inr rfl,_,(ry T),?_⟩
      exact wk_ T [] rfl .nil
  rfl

end Go.Rex

namespace Go.Rex
open Go.Proofs
open Go Go.Rex Go.RowKit
set_option maxRecDepth 100000
set_option maxHeartbeats 200000
theorem base_Within_spec {v1 : Int} {v2 : Int} {v3 : Int} {v4 : Bool} (hr : base_Within v1 v2 v3 = some (v4)) : Spec (lim Tryz.prog) 17 [.v (.int .i64 v1),.v (.int .i64 v2),.v (.int .i64 v3)] ⟨[.v (.bool v4)],[]⟩:=by
  unfold base_Within at hr
  have T:=trivial
  apply Spec.fn Tryz.func17 rfl
  focus (simp [Tryz.f17]<;>exact rfl)
  focus
    refine wa_ T (g:=?_)
    rcases ifs hr with ⟨h1,hr⟩|⟨h1,hr⟩
    · have T:=an h1 T
      refine wa_ T (g:=?_)
      cases hr
      refine ⟨.inr rfl,_,(ry T),?_⟩
      exact wk_ T [] rfl .nil
    · have T:=an h1 T
      refine wa_ T (g:=?_)
      cases hr
      refine ⟨.inr rfl,_,(ry T),?_⟩
      exact wk_ T [] rfl .nil
  rfl

end Go.Rex

namespace Go.Rex
open Go.Proofs
open Go Go.Rex Go.RowKit
set_option maxRecDepth 100000
set_option maxHeartbeats 200000
def y25:=an @ag3 <| an @fd38_0 <| an @fd38_1 <| @fd38_2
theorem ref07_PlaceErr_spec {v1 : Int} {v2 : Int} {v3 : Int} {v4 : Int} (hr : ref07_PlaceErr v1 v2 v3 = some (v4)) : Spec (lim Tryz.prog) 22 [.agg [.v (.int .i64 v1),.v (.int .i64 v2),.v (.int .i64 v3)]] ⟨[.v (.int .i64 v4)],[]⟩:=by
  unfold ref07_PlaceErr at hr
  have T:=y25
  apply Spec.fn Tryz.func22 rfl
  focus (simp [Tryz.f22]<;>exact rfl)
  focus
    refine wB T (g:=?_)
    obtain ⟨v5,h1,hr⟩:=bs hr
    apply TO.cal (wn T) rfl goFn17 (base_Within_spec h1) rfl rfl rfl
    repeat exact sd T
    refine wa_ T (g:=?_)
    apply TO.pop1 (wn T) (pop_not rfl)
    repeat exact sd T
    refine wa_ T (g:=?_)
    rcases ifs hr with ⟨h2,hr⟩|⟨h2,hr⟩
    · have T:=an h2 T
      refine wA T (g:=?_)
      obtain ⟨v6,h3,hr⟩:=bs hr
      apply TO.cal (wn T) rfl goFn17 (base_Within_spec h3) rfl rfl rfl
      repeat exact sd T
      refine wa_ T (g:=?_)
      apply TO.pop1 (wn T) (pop_not rfl)
      repeat exact sd T
      refine wa_ T (g:=?_)
      rcases ifs hr with ⟨h4,hr⟩|⟨h4,hr⟩
      · have T:=an h4 T
        refine wA T (g:=?_)
        obtain ⟨v7,h5,hr⟩:=bs hr
        apply TO.cal (wn T) rfl goFn17 (base_Within_spec h5) rfl rfl rfl
        repeat exact sd T
        refine wa_ T (g:=?_)
        apply TO.pop1 (wn T) (pop_not rfl)
        repeat exact sd T
        refine wa_ T (g:=?_)
        rcases ifs hr with ⟨h6,hr⟩|⟨h6,hr⟩
        · have T:=an h6 T
          refine wa_ T (g:=?_)
          cases hr
          refine ⟨.inr rfl,_,(ry T),?_⟩
          exact wk_ T [] rfl .nil
        · have T:=an h6 T
          refine wa_ T (g:=?_)
          cases hr
          refine ⟨.inr rfl,_,(ry T),?_⟩
          exact wk_ T [] rfl .nil
      · have T:=an h4 T
        refine wa_ T (g:=?_)
        cases hr
        refine ⟨.inr rfl,_,(ry T),?_⟩
        exact wk_ T [] rfl .nil
    · have T:=an h2 T
      refine wa_ T (g:=?_)
      cases hr
      refine ⟨.inr rfl,_,(ry T),?_⟩
      exact wk_ T [] rfl .nil
  rfl

end Go.Rex

namespace Go.Rex
open Go.Proofs
open Go Go.Rex Go.RowKit
set_option maxRecDepth 100000
set_option maxHeartbeats 200000
def y26:=an @ag3 <| an @fd38_0 <| an @fd38_1 <| @fd38_2
theorem ref07_square_spec {v1 : Int} {v2 : Int} {v3 : Int} {v4 : Int} {v5 : Int} {v6 : Int} {v7 : Int} (hr : ref07_square v1 v2 v3 v4 v5 v6 = some (v7)) : Spec (lim Tryz.prog) 79 [.agg [.v (.int .i64 v1),.v (.int .i64 v2),.v (.int .i64 v3)],.agg [.v (.int .i64 v4),.v (.int .i64 v5),.v (.int .i64 v6)]] ⟨[.v (.int .i64 v7)],[]⟩:=by
  unfold ref07_square at hr
  have T:=y26
  apply Spec.fn Tryz.func79 rfl
  focus (simp [Tryz.f79]<;>exact rfl)
  focus
    refine wB T (g:=?_)
    cases hr
    refine ⟨.inr rfl,_,(ry T),?_⟩
    exact wr [] rfl .nil
  rfl

end Go.Rex

namespace Go.Rex
open Go.Proofs
open Go Go.Rex Go.RowKit
set_option maxRecDepth 100000
set_option maxHeartbeats 200000
def y27:=an @ag38 <| an @cs38 <| @ok38
theorem ref07_Near_spec {v1 : Int} {v2 : Int} {v3 : Int} {v4 : Int} {v5 : Int} {v6 : Int} {v7 : Bool} (hr : ref07_Near v1 v2 v3 v4 v5 v6 = some (v7)) : Spec (lim Tryz.prog) 23 [.agg [.v (.int .i64 v1),.v (.int .i64 v2),.v (.int .i64 v3)],.agg [.v (.int .i64 v4),.v (.int .i64 v5),.v (.int .i64 v6)]] ⟨[.v (.bool v7)],[]⟩:=by
  unfold ref07_Near at hr
  have T:=y27
  apply Spec.fn Tryz.func23 rfl
  focus (simp [Tryz.f23]<;>exact rfl)
  focus
    refine wB T (g:=?_)
    obtain ⟨v8,h1,hr⟩:=bs hr
    apply TO.cal (wn T) rfl goFn79 (ref07_square_spec h1) rfl rfl rfl
    repeat exact sd T
    refine wa_ T (g:=?_)
    cases hr
    refine ⟨.inr rfl,_,(ry T),?_⟩
    exact wr [] rfl .nil
  rfl

end Go.Rex

namespace Go.Rex
open Go.Proofs
open Go Go.Rex Go.RowKit
set_option maxRecDepth 100000
set_option maxHeartbeats 200000
def y28:=an @ag3 <| an @fd43_0 <| @fd43_1
theorem ref07_SoundErr_spec {v1 : Int} {v2 : Int} {v3 : Int} (hr : ref07_SoundErr v1 v2 = some (v3)) : Spec (lim Tryz.prog) 25 [.agg [.v (.int .i64 v1),.v (.int .i64 v2)]] ⟨[.v (.int .i64 v3)],[]⟩:=by
  unfold ref07_SoundErr at hr
  have T:=y28
  apply Spec.fn Tryz.func25 rfl
  focus (simp [Tryz.f25]<;>exact rfl)
  focus
    refine wB T (g:=?_)
    obtain ⟨v4,h1,hr⟩:=bs hr
    apply TO.cal (wn T) rfl goFn17 (base_Within_spec h1) rfl rfl rfl
    repeat exact sd T
    refine wa_ T (g:=?_)
    apply TO.pop1 (wn T) (pop_not rfl)
    repeat exact sd T
    refine wa_ T (g:=?_)
    rcases ifs hr with ⟨h2,hr⟩|⟨h2,hr⟩
    · have T:=an h2 T
      refine wA T (g:=?_)
      obtain ⟨v5,h3,hr⟩:=bs hr
      apply TO.cal (wn T) rfl goFn17 (base_Within_spec h3) rfl rfl rfl
      repeat exact sd T
      refine wa_ T (g:=?_)
      apply TO.pop1 (wn T) (pop_not rfl)
      repeat exact sd T
      refine wa_ T (g:=?_)
      rcases ifs hr with ⟨h4,hr⟩|⟨h4,hr⟩
      · have T:=an h4 T
        refine wa_ T (g:=?_)
        cases hr
        refine ⟨.inr rfl,_,(ry T),?_⟩
        exact wk_ T [] rfl .nil
      · have T:=an h4 T
        refine wa_ T (g:=?_)
        cases hr
        refine ⟨.inr rfl,_,(ry T),?_⟩
        exact wk_ T [] rfl .nil
    · have T:=an h2 T
      refine wa_ T (g:=?_)
      cases hr
      refine ⟨.inr rfl,_,(ry T),?_⟩
      exact wk_ T [] rfl .nil
  rfl

end Go.Rex

namespace Go.Rex
open Go.Proofs
open Go Go.Rex Go.RowKit
set_option maxRecDepth 100000
set_option maxHeartbeats 200000
def y29:=an @wi64_0a1073741824 <| @wi64_1073741824m1073741824
theorem base_Root_spec {v1 : Int} {v2 : Int} (hr : base_Root v1 = some (v2)) : Spec (lim Tryz.prog) 94 [.v (.int .i64 v1)] ⟨[.v (.int .i64 v2)],[]⟩:=by
  unfold base_Root at hr
  have T:=y29
  apply Spec.fn Tryz.func94 rfl
  focus (simp [Tryz.f94]<;>exact rfl)
  focus
    refine wa_ T (g:=?_)
    obtain ⟨v6,h5,hr⟩:=bs hr
    refine TX.loopE (step:=base_Root_l1 v1) (x:=(0,1073741824)) h5 (fun (v3,v4)=>⟨.v (.int .i64 v1) :: .junk :: .junk :: .v (.int .i64 v3) :: .v (.int .i64 v4) :: .junk :: .junk :: .junk :: .junk :: .junk :: .junk :: .junk :: .junk :: .junk :: .junk :: .junk :: .junk :: .junk :: .junk :: .junk :: .junk :: .junk :: [],[]⟩) (fun v5=>(.exit 0,⟨.junk :: .junk :: .junk :: .v (.int .i64 v5) :: .junk :: .junk :: .junk :: .junk :: .junk :: .junk :: .junk :: .junk :: .junk :: .junk :: .junk :: .junk :: .junk :: .junk :: .junk :: .junk :: .junk :: .junk :: [],[]⟩)) ?_ ?_ ?_ ?_
    · rintro ⟨v3,v4⟩ v0 hr
      dsimp only [base_Root_l1] at hr
      try dsimp only
      refine wa_ T (g:=?_)
      rcases ifs hr with ⟨h3,hr⟩|⟨h3,hr⟩
      · have T:=an h3 T
        refine wa_ T (g:=?_)
        rcases ifs hr with ⟨h4,hr⟩|⟨h4,hr⟩
        · have T:=an h4 T
          refine wa_ T (g:=?_)
          cases hr
          refine ⟨rfl,?_⟩
          exact wk_ T [] rfl .nil
        · have T:=an h4 T
          refine wa_ T (g:=?_)
          cases hr
          refine ⟨rfl,?_⟩
          exact wk_ T [] rfl .nil
      · have T:=an h3 T
        refine wa_ T (g:=?_)
        cases hr
        refine ⟨rfl,?_⟩
        exact wk_ T [] rfl .nil
    · intro e h;cases h
    · try dsimp only
      refine wa_ T (g:=?_)
      cases hr
      refine ⟨.inr rfl,_,(ry T),?_⟩
      exact wr [] rfl .nil
    · try dsimp only
      exact wr [] rfl .nil
  rfl

end Go.Rex

namespace Go.Rex
open Go.Proofs
open Go Go.Rex Go.RowKit
set_option maxRecDepth 100000
set_option maxHeartbeats 200000
theorem base_RootUp_spec {v1 : Int} {v2 : Int} (hr : base_RootUp v1 = some (v2)) : Spec (lim Tryz.prog) 95 [.v (.int .i64 v1)] ⟨[.v (.int .i64 v2)],[]⟩:=by
  unfold base_RootUp at hr
  have T:=trivial
  apply Spec.fn Tryz.func95 rfl
  focus (simp [Tryz.f95]<;>exact rfl)
  focus
    refine wa_ T (g:=?_)
    obtain ⟨v3,h1,hr⟩:=bs hr
    apply TO.cal (wn T) rfl goFn94 (base_Root_spec h1) rfl rfl rfl
    repeat exact sd T
    refine wa_ T (g:=?_)
    rcases ifs hr with ⟨h2,hr⟩|⟨h2,hr⟩
    · have T:=an h2 T
      refine wa_ T (g:=?_)
      cases hr
      refine ⟨.inr rfl,_,(ry T),?_⟩
      exact wk_ T [] rfl .nil
    · have T:=an h2 T
      refine wa_ T (g:=?_)
      cases hr
      refine ⟨.inr rfl,_,(ry T),?_⟩
      exact wk_ T [] rfl .nil
  rfl

end Go.Rex

namespace Go.Rex
open Go.Proofs
open Go Go.Rex Go.RowKit
set_option maxRecDepth 100000
set_option maxHeartbeats 200000
def y30:=an @ag38 <| an @ag45 <| an @cs38 <| an @cs45 <| an @ok38 <| an @ok45 <| an @st45 <| @zc45
theorem ref07_milli_spec {v1 : Int} {v2 : Int} {v3 : Int} {v4 : Int} {v5 : Int} {v6 : Int} {v7 : Int} {v8 : Int} (hr : ref07_milli v1 v2 v3 v4 v5 v6 = some (v7,v8)) : Spec (lim Tryz.prog) 80 [.agg [.v (.int .i64 v1),.v (.int .i64 v2),.v (.int .i64 v3)],.agg [.v (.int .i64 v4),.v (.int .i64 v5),.v (.int .i64 v6)]] ⟨[.agg [.v (.int .i64 v7),.v (.int .i64 v8)]],[]⟩:=by
  unfold ref07_milli at hr
  have T:=y30
  apply Spec.fn Tryz.func80 rfl
  focus (simp [Tryz.f80]<;>exact rfl)
  focus
    refine wB T (g:=?_)
    obtain ⟨v9,h1,hr⟩:=bs hr
    apply TO.cal (wn T) rfl goFn79 (ref07_square_spec h1) rfl rfl rfl
    repeat exact sd T
    refine wa_ T (g:=?_)
    obtain ⟨v10,h2,hr⟩:=bs hr
    apply TO.cal (wn T) rfl goFn94 (base_Root_spec h2) rfl rfl rfl
    repeat exact sd T
    refine wa_ T (g:=?_)
    obtain ⟨v11,h3,hr⟩:=bs hr
    apply TO.cal (wn T) rfl goFn95 (base_RootUp_spec h3) rfl rfl rfl
    repeat exact sd T
    refine wa_ T (g:=?_)
    cases hr
    refine ⟨.inr rfl,_,(ry T),?_⟩
    exact wr [] rfl .nil
  rfl

end Go.Rex

namespace Go.Rex
open Go.Proofs
open Go Go.Rex Go.RowKit
set_option maxRecDepth 100000
set_option maxHeartbeats 200000
theorem base_Floor_spec {v1 : Int} {v2 : Int} {v3 : Int} (hr : base_Floor v1 v2 = some (v3)) : Spec (lim Tryz.prog) 81 [.v (.int .i64 v1),.v (.int .i64 v2)] ⟨[.v (.int .i64 v3)],[]⟩:=by
  unfold base_Floor at hr
  have T:=trivial
  apply Spec.fn Tryz.func81 rfl
  focus (simp [Tryz.f81]<;>exact rfl)
  focus
    refine wa_ T (g:=?_)
    by_cases h1 : v2 = 0
    · rw [if_pos h1] at hr
      cases hr
    · rw [if_neg h1] at hr
      have T:=an h1 T
      refine wa_ T (g:=?_)
      rcases ifs hr with ⟨h2,hr⟩|⟨h2,hr⟩
      · have T:=an h2 T
        refine wa_ T (g:=?_)
        cases hr
        refine ⟨.inr rfl,_,(ry T),?_⟩
        exact wk_ T [] rfl .nil
      · have T:=an h2 T
        refine wa_ T (g:=?_)
        cases hr
        refine ⟨.inr rfl,_,(ry T),?_⟩
        exact wk_ T [] rfl .nil
  rfl

end Go.Rex

namespace Go.Rex
open Go.Proofs
open Go Go.Rex Go.RowKit
set_option maxRecDepth 100000
set_option maxHeartbeats 200000
theorem base_Ceil_spec {v1 : Int} {v2 : Int} {v3 : Int} (hr : base_Ceil v1 v2 = some (v3)) : Spec (lim Tryz.prog) 82 [.v (.int .i64 v1),.v (.int .i64 v2)] ⟨[.v (.int .i64 v3)],[]⟩:=by
  unfold base_Ceil at hr
  have T:=trivial
  apply Spec.fn Tryz.func82 rfl
  focus (simp [Tryz.f82]<;>exact rfl)
  focus
    refine wa_ T (g:=?_)
    apply TO.pop1 (wn T) (pop_neg rfl)
    repeat exact sd T
    refine wa_ T (g:=?_)
    obtain ⟨v4,h1,hr⟩:=bs hr
    apply TO.cal (wn T) rfl goFn81 (base_Floor_spec h1) rfl rfl rfl
    repeat exact sd T
    refine wa_ T (g:=?_)
    apply TO.pop1 (wn T) (pop_neg rfl)
    repeat exact sd T
    refine wa_ T (g:=?_)
    cases hr
    refine ⟨.inr rfl,_,(ry T),?_⟩
    exact wr [] rfl .nil
  rfl

end Go.Rex

namespace Go.Rex
open Go.Proofs
open Go Go.Rex Go.RowKit
set_option maxRecDepth 100000
set_option maxHeartbeats 200000
def y31:=an @ag3 <| an @ag38 <| an @ag45 <| an @cs38 <| an @cs45 <| an @fd43_0 <| an @fd43_1 <| an @fd45_0 <| an @fd45_1 <| an @ok38 <| an @ok45 <| an @st45 <| @zc45
theorem ref07_Travel_spec {v1 : Int} {v2 : Int} {v3 : Int} {v4 : Int} {v5 : Int} {v6 : Int} {v7 : Int} {v8 : Int} {v9 : Int} {v10 : Int} (hr : ref07_Travel v1 v2 v3 v4 v5 v6 v7 v8 = some (v9,v10)) : Spec (lim Tryz.prog) 26 [.agg [.v (.int .i64 v1),.v (.int .i64 v2),.v (.int .i64 v3)],.agg [.v (.int .i64 v4),.v (.int .i64 v5),.v (.int .i64 v6)],.agg [.v (.int .i64 v7),.v (.int .i64 v8)]] ⟨[.agg [.v (.int .i64 v9),.v (.int .i64 v10)]],[]⟩:=by
  unfold ref07_Travel at hr
  have T:=y31
  apply Spec.fn Tryz.func26 rfl
  focus (simp [Tryz.f26]<;>exact rfl)
  focus
    refine wB T (g:=?_)
    obtain ⟨⟨v11,v12⟩,h1,hr⟩:=bs hr
    try dsimp only at hr
    apply TO.cal (wn T) rfl goFn80 (ref07_milli_spec h1) rfl rfl rfl
    repeat exact sd T
    refine wA T (g:=?_)
    obtain ⟨v13,h2,hr⟩:=bs hr
    first|apply TD.cal (wn T) rfl goFn81 (base_Floor_spec h2) rfl rfl rfl|apply TD.calw (wn T) rfl goFn81 (base_Floor_spec h2) rfl rfl rfl rfl
    repeat exact sd T
    refine wA T (g:=?_)
    obtain ⟨v14,h3,hr⟩:=bs hr
    first|apply TD.cal (wn T) rfl goFn82 (base_Ceil_spec h3) rfl rfl rfl|apply TD.calw (wn T) rfl goFn82 (base_Ceil_spec h3) rfl rfl rfl rfl
    repeat exact sd T
    refine wa_ T (g:=?_)
    cases hr
    refine ⟨.inr rfl,_,(ry T),?_⟩
    exact wr [] rfl .nil
  rfl

end Go.Rex

namespace Go.Rex
open Go.Proofs
open Go Go.Rex Go.RowKit
set_option maxRecDepth 100000
set_option maxHeartbeats 200000
def y32:=an @ag3 <| an @ag38 <| an @ag45 <| an @cs38 <| an @cs45 <| an @fd43_0 <| an @fd43_1 <| an @fd45_0 <| an @fd45_1 <| an @ok38 <| an @ok45 <| an @st45 <| @zc45
theorem ref07_NumbersOf_spec {v1 : Int} {v2 : Int} {v3 : Int} {v4 : Int} {v5 : Int} {v6 : Int} {v7 : Int} {v8 : Int} {v9 : Int} {v10 : Int} (hr : ref07_NumbersOf v1 v2 v3 v4 v5 v6 v7 v8 = some (v9,v10)) : Spec (lim Tryz.prog) 27 [.agg [.v (.int .i64 v1),.v (.int .i64 v2),.v (.int .i64 v3)],.agg [.v (.int .i64 v4),.v (.int .i64 v5),.v (.int .i64 v6)],.agg [.v (.int .i64 v7),.v (.int .i64 v8)]] ⟨[.agg [.v (.int .i64 v9),.v (.int .i64 v10)]],[]⟩:=by
  unfold ref07_NumbersOf at hr
  have T:=y32
  apply Spec.fn Tryz.func27 rfl
  focus (simp [Tryz.f27]<;>exact rfl)
  focus
    refine wB T (g:=?_)
    obtain ⟨⟨v11,v12⟩,h1,hr⟩:=bs hr
    try dsimp only at hr
    apply TO.cal (wn T) rfl goFn80 (ref07_milli_spec h1) rfl rfl rfl
    repeat exact sd T
    refine wA T (g:=?_)
    obtain ⟨v13,h2,hr⟩:=bs hr
    first|apply TD.cal (wn T) rfl goFn81 (base_Floor_spec h2) rfl rfl rfl|apply TD.calw (wn T) rfl goFn81 (base_Floor_spec h2) rfl rfl rfl rfl
    repeat exact sd T
    refine wa_ T (g:=?_)
    obtain ⟨v14,h3,hr⟩:=bs hr
    first|apply TD.cal (wn T) rfl goFn81 (base_Floor_spec h3) rfl rfl rfl|apply TD.calw (wn T) rfl goFn81 (base_Floor_spec h3) rfl rfl rfl rfl
    repeat exact sd T
    refine wA T (g:=?_)
    obtain ⟨v15,h4,hr⟩:=bs hr
    first|apply TD.cal (wn T) rfl goFn82 (base_Ceil_spec h4) rfl rfl rfl|apply TD.calw (wn T) rfl goFn82 (base_Ceil_spec h4) rfl rfl rfl rfl
    repeat exact sd T
    refine wa_ T (g:=?_)
    obtain ⟨v16,h5,hr⟩:=bs hr
    first|apply TD.cal (wn T) rfl goFn81 (base_Floor_spec h5) rfl rfl rfl|apply TD.calw (wn T) rfl goFn81 (base_Floor_spec h5) rfl rfl rfl rfl
    repeat exact sd T
    refine wa_ T (g:=?_)
    cases hr
    refine ⟨.inr rfl,_,(ry T),?_⟩
    exact wr [] rfl .nil
  rfl

end Go.Rex

namespace Go.Rex
open Go.Proofs
open Go Go.Rex Go.RowKit
set_option maxRecDepth 100000
set_option maxHeartbeats 200000
def y33:=an @ag3 <| an @ag38 <| an @ag45 <| an @cs38 <| an @cs45 <| an @fd45_0 <| an @fd45_1 <| an @ok38 <| an @ok45 <| an @st45 <| @zc45
theorem ref07_Strength_spec {v1 : Int} {v2 : Int} {v3 : Int} {v4 : Int} {v5 : Int} {v6 : Int} {v7 : Int} {v8 : Int} (hr : ref07_Strength v1 v2 v3 v4 v5 v6 = some (v7,v8)) : Spec (lim Tryz.prog) 24 [.agg [.v (.int .i64 v1),.v (.int .i64 v2),.v (.int .i64 v3)],.agg [.v (.int .i64 v4),.v (.int .i64 v5),.v (.int .i64 v6)]] ⟨[.agg [.v (.int .i64 v7),.v (.int .i64 v8)]],[]⟩:=by
  unfold ref07_Strength at hr
  have T:=y33
  apply Spec.fn Tryz.func24 rfl
  focus (simp [Tryz.f24]<;>exact rfl)
  focus
    refine wB T (g:=?_)
    obtain ⟨⟨v9,v10⟩,h1,hr⟩:=bs hr
    try dsimp only at hr
    apply TO.cal (wn T) rfl goFn80 (ref07_milli_spec h1) rfl rfl rfl
    repeat exact sd T
    refine wA T (g:=?_)
    obtain ⟨v11,h2,hr⟩:=bs hr
    first|apply TD.cal (wn T) rfl goFn81 (base_Floor_spec h2) rfl rfl rfl|apply TD.calw (wn T) rfl goFn81 (base_Floor_spec h2) rfl rfl rfl rfl
    repeat exact sd T
    refine wA T (g:=?_)
    obtain ⟨v12,h3,hr⟩:=bs hr
    first|apply TD.cal (wn T) rfl goFn82 (base_Ceil_spec h3) rfl rfl rfl|apply TD.calw (wn T) rfl goFn82 (base_Ceil_spec h3) rfl rfl rfl rfl
    repeat exact sd T
    refine wa_ T (g:=?_)
    cases hr
    refine ⟨.inr rfl,_,(ry T),?_⟩
    exact wr [] rfl .nil
  rfl

end Go.Rex

namespace Go.Rex
open Go.Proofs
open Go Go.Rex Go.RowKit
set_option maxRecDepth 100000

end Go.Rex

namespace Go.Rex
open Go.Proofs
open Go Go.Rex Go.RowKit
set_option maxRecDepth 100000
set_option maxHeartbeats 4000000
def y34:=an @ag38 <| an @ag43 <| an @ag45 <| an @cs38 <| an @cs43 <| an @cs45 <| an @eqg45 <| an @eqs45 <| an @ok38 <| an @ok43 <| an @ok45 <| an @st45 <| @zc45
theorem law07_ArrayWays_law {v1 : Int} {v2 : Int} {v3 : Int} {v4 : Int} {v5 : Int} {v6 : Int} {v7 : Int} {v8 : Int} (hr : law07_ArrayWays v1 v2 v3 v4 v5 v6 v7 v8 = some true) {Fz : Nat → Prop} {h : List Blk} {vs : List Value} (hfz : ∀ n, Fz n → n < h.length) (hargs : VLs Fz h noL [.agg [.v (.int .i64 v1), .v (.int .i64 v2), .v (.int .i64 v3)], .agg [.v (.int .i64 v4), .v (.int .i64 v5), .v (.int .i64 v6)], .agg [.v (.int .i64 v7), .v (.int .i64 v8)]] vs)
    {B lo : Nat} {D : Nat → Prop} {m : NMap} {w : World} {args' : List Value} (hrel : Rel B lo D m h w) (hlo : lo ≤ h.length) (hargs' : VRs D m vs args') : Calls Tryz.prog 4 ⟨args'⟩ w (fun e w'=>e = .returned (.bool true) ∧ Below w.heap.size w w'):=by
  unfold law07_ArrayWays at hr
  have T:=y34
  refine law_tex follows awake_true Tryz.func4 rfl (tm0:=.agg [.v (.int .i64 v1),.v (.int .i64 v2),.v (.int .i64 v3)] :: .agg [.v (.int .i64 v4),.v (.int .i64 v5),.v (.int .i64 v6)] :: .agg [.v (.int .i64 v7),.v (.int .i64 v8)] :: .junk :: .junk :: .junk :: .junk :: .junk :: .junk :: .junk :: .junk :: .junk :: .junk :: .junk :: .junk :: .junk :: .junk :: .junk :: .junk :: .junk :: .junk :: .junk :: .junk :: .junk :: .junk :: .junk :: .junk :: .junk :: .junk :: .junk :: .junk :: .junk :: .junk :: .junk :: .junk :: .junk :: .junk :: .junk :: .junk :: .junk :: .junk :: .junk :: .junk :: .junk :: .junk :: .junk :: .junk :: .junk :: .junk :: .junk :: .junk :: .junk :: .junk :: .junk :: .junk :: .junk :: .junk :: .junk :: .junk :: .junk :: .junk :: .junk :: .junk :: .junk :: .junk :: .junk :: .junk :: .junk :: .junk :: .junk :: .junk :: .junk :: .junk :: .junk :: .junk :: .junk :: .junk :: .junk :: .junk :: .junk :: .junk :: .junk :: .junk :: .junk :: .junk :: .junk :: .junk :: .junk :: .junk :: .junk :: .junk :: .junk :: .junk :: .junk :: .junk :: .junk :: .junk :: .junk :: .junk :: .junk :: .junk :: .junk :: .junk :: .junk :: .junk :: .junk :: .junk :: .junk :: .junk :: .junk :: .junk :: .junk :: .junk :: .junk :: .junk :: .junk :: .junk :: .junk :: .junk :: .junk :: .junk :: .junk :: .junk :: .junk :: .junk :: .junk :: .junk :: .junk :: .junk :: .junk :: .junk :: .junk :: .junk :: .junk :: .junk :: .junk :: .junk :: .junk :: .junk :: .junk :: .junk :: .junk :: .junk :: .junk :: .junk :: .junk :: .junk :: .junk :: .junk :: .junk :: .junk :: .junk :: .junk :: .junk :: .junk :: .junk :: .junk :: .junk :: .junk :: .junk :: .junk :: .junk :: .junk :: .junk :: .junk :: .junk :: .junk :: .junk :: .junk :: .junk :: []) (by simp [Tryz.f4]<;>exact rfl) ?_ hfz hargs hrel hlo hargs'
  refine wb_ T (g:=?_)
  apply TO.cal (wn T) rfl goFn11 Spec.awake rfl rfl rfl
  repeat exact sd T
  refine wa_ T (g:=?_)
  apply TO.pop1 (wn T) (pop_not rfl)
  repeat exact sd T
  refine wA T (g:=?_)
  obtain ⟨⟨v10,v11,v12⟩,h1,hr⟩:=bs hr
  try dsimp only at hr
  apply TO.cal (wn T) rfl goFn19 (Spec.ov (array_Travel_spec h1) (by decide)) rfl rfl rfl
  repeat exact sd T
  refine wA T (g:=?_)
  obtain ⟨⟨v13,v14,v15⟩,h2,hr⟩:=bs hr
  try dsimp only at hr
  apply TO.cal (wn T) rfl goFn20 (Spec.ov (array_NumbersOf_spec h2) (by decide)) rfl rfl rfl
  repeat exact sd T
  refine wA T (g:=?_)
  obtain ⟨⟨v16,v17,v18⟩,h3,hr⟩:=bs hr
  try dsimp only at hr
  apply TO.cal (wn T) rfl goFn21 (Spec.ov (array_Strength_spec h3) (by decide)) rfl rfl rfl
  repeat exact sd T
  refine wA T (g:=?_)
  obtain ⟨v19,h4,hr⟩:=bs hr
  apply TO.cal (wn T) rfl goFn22 (Spec.ov (ref07_PlaceErr_spec h4) (by decide)) rfl rfl rfl
  repeat exact sd T
  refine wa_ T (g:=?_)
  rcases ifs hr with ⟨h5,hr⟩|⟨h5,hr⟩
  · have T:=an h5 T
    refine wA T (g:=?_)
    obtain ⟨v20,h6,hr⟩:=bs hr
    apply TO.cal (wn T) rfl goFn22 (Spec.ov (ref07_PlaceErr_spec h6) (by decide)) rfl rfl rfl
    repeat exact sd T
    refine wa_ T (g:=?_)
    rcases ifs hr with ⟨h7,hr⟩|⟨h7,hr⟩
    · have T:=an h7 T
      refine wa_ T (g:=?_)
      rcases ifs hr with ⟨h8,hr⟩|⟨h8,hr⟩
      · have T:=an h8 T
        refine wa_ T (g:=?_)
        rcases ifs hr with ⟨h9,hr⟩|⟨h9,hr⟩
        · have T:=an h9 T
          refine wa_ T (g:=?_)
          rcases ifs hr with ⟨h10,hr⟩|⟨h10,hr⟩
          · have T:=an h10 T
            refine wA T (g:=?_)
            apply TO.pop1 (wn T) (pop_eqs1 (X:=⟨[.int .i64 (v10),.int .i64 (v11)]⟩) (Y:=⟨[.int .i64 (0),.int .i64 (0)]⟩) rfl rfl rfl rfl rfl rfl rfl eqg45 eqs45 rfl)
            repeat exact sd T
            refine wa_ T (g:=?_)
            rcases ifs hr with ⟨h11,hr⟩|⟨h11,hr⟩
            · have T:=an h11 T
              refine wA T (g:=?_)
              apply TO.pop1 (wn T) (pop_eqs1 (X:=⟨[.int .i64 (v13),.int .i64 (v14)]⟩) (Y:=⟨[.int .i64 (0),.int .i64 (0)]⟩) rfl rfl rfl rfl rfl rfl rfl eqg45 eqs45 rfl)
              repeat exact sd T
              refine wa_ T (g:=?_)
              rcases ifs hr with ⟨h12,hr⟩|⟨h12,hr⟩
              · have T:=an h12 T
                refine wA T (g:=?_)
                apply TO.pop1 (wn T) (pop_eqs1 (X:=⟨[.int .i64 (v16),.int .i64 (v17)]⟩) (Y:=⟨[.int .i64 (0),.int .i64 (0)]⟩) rfl rfl rfl rfl rfl rfl rfl eqg45 eqs45 rfl)
                repeat exact sd T
                refine wa_ T (g:=?_)
                exact lv T hr
              · have T:=an h12 T
                refine wa_ T (g:=?_)
                exact lv T hr
            · have T:=an h11 T
              refine wa_ T (g:=?_)
              exact lv T hr
          · have T:=an h10 T
            refine wa_ T (g:=?_)
            exact lv T hr
        · have T:=an h9 T
          refine wa_ T (g:=?_)
          exact lv T hr
      · have T:=an h8 T
        refine wa_ T (g:=?_)
        exact lv T hr
    · have T:=an h7 T
      refine wA T (g:=?_)
      obtain ⟨v21,h13,hr⟩:=bs hr
      apply TO.cal (wn T) rfl goFn23 (Spec.ov (ref07_Near_spec h13) (by decide)) rfl rfl rfl
      repeat exact sd T
      refine wa_ T (g:=?_)
      rcases ifs hr with ⟨h14,hr⟩|⟨h14,hr⟩
      · have T:=an h14 T
        refine wa_ T (g:=?_)
        rcases ifs hr with ⟨h15,hr⟩|⟨h15,hr⟩
        · have T:=an h15 T
          refine wa_ T (g:=?_)
          exact lv T hr
        · have T:=an h15 T
          refine wA T (g:=?_)
          apply TO.pop1 (wn T) (pop_eqs2 (X:=⟨[.int .i64 (v16),.int .i64 (v17)]⟩) (Y:=⟨[.int .i64 (0),.int .i64 (0)]⟩) rfl rfl rfl rfl rfl rfl rfl eqg45 eqs45 rfl)
          repeat exact sd T
          refine wa_ T (g:=?_)
          rcases ifs hr with ⟨h16,hr⟩|⟨h16,hr⟩
          · have T:=an h16 T
            refine wA T (g:=?_)
            obtain ⟨v22,h17,hr⟩:=bs hr
            apply TO.cal (wn T) rfl goFn25 (Spec.ov (ref07_SoundErr_spec h17) (by decide)) rfl rfl rfl
            repeat exact sd T
            refine wa_ T (g:=?_)
            rcases ifs hr with ⟨h18,hr⟩|⟨h18,hr⟩
            · have T:=an h18 T
              refine wa_ T (g:=?_)
              rcases ifs hr with ⟨h19,hr⟩|⟨h19,hr⟩
              · have T:=an h19 T
                refine wa_ T (g:=?_)
                rcases ifs hr with ⟨h20,hr⟩|⟨h20,hr⟩
                · have T:=an h20 T
                  refine wA T (g:=?_)
                  apply TO.pop1 (wn T) (pop_eqs1 (X:=⟨[.int .i64 (v10),.int .i64 (v11)]⟩) (Y:=⟨[.int .i64 (0),.int .i64 (0)]⟩) rfl rfl rfl rfl rfl rfl rfl eqg45 eqs45 rfl)
                  repeat exact sd T
                  refine wa_ T (g:=?_)
                  rcases ifs hr with ⟨h21,hr⟩|⟨h21,hr⟩
                  · have T:=an h21 T
                    refine wA T (g:=?_)
                    apply TO.pop1 (wn T) (pop_eqs1 (X:=⟨[.int .i64 (v13),.int .i64 (v14)]⟩) (Y:=⟨[.int .i64 (0),.int .i64 (0)]⟩) rfl rfl rfl rfl rfl rfl rfl eqg45 eqs45 rfl)
                    repeat exact sd T
                    refine wa_ T (g:=?_)
                    exact lv T hr
                  · have T:=an h21 T
                    refine wa_ T (g:=?_)
                    exact lv T hr
                · have T:=an h20 T
                  refine wa_ T (g:=?_)
                  exact lv T hr
              · have T:=an h19 T
                refine wa_ T (g:=?_)
                exact lv T hr
            · have T:=an h18 T
              refine wA T (g:=?_)
              obtain ⟨⟨v23,v24,v25⟩,h22,hr⟩:=bs hr
              try dsimp only at hr
              apply TO.cal (wn T) rfl goFn19 (Spec.ov (array_Travel_spec h22) (by decide)) rfl rfl rfl
              repeat exact sd T
              refine wa_ T (g:=?_)
              rcases ifs hr with ⟨h23,hr⟩|⟨h23,hr⟩
              · have T:=an h23 T
                refine wA T (g:=?_)
                obtain ⟨⟨v26,v27⟩,h24,hr⟩:=bs hr
                try dsimp only at hr
                first|apply TD.cal (wn T) rfl goFn26 (Spec.ov (ref07_Travel_spec h24) (by decide)) rfl rfl rfl|apply TD.calw (wn T) rfl goFn26 (Spec.ov (ref07_Travel_spec h24) (by decide)) rfl rfl rfl rfl
                repeat exact sd T
                refine wa_ T (g:=?_)
                apply TD.pop1 (wn T) (pop_eqs1 (X:=⟨[.int .i64 (v10),.int .i64 (v11)]⟩) (Y:=⟨[.int .i64 (v26),.int .i64 (v27)]⟩) rfl rfl rfl rfl rfl rfl rfl eqg45 eqs45 rfl)
                repeat exact sd T
                refine wa_ T (g:=?_)
                rcases ifs hr with ⟨h25,hr⟩|⟨h25,hr⟩
                · have T:=an h25 T
                  refine wa_ T (g:=?_)
                  rcases ifs hr with ⟨h26,hr⟩|⟨h26,hr⟩
                  · have T:=an h26 T
                    refine wA T (g:=?_)
                    obtain ⟨⟨v28,v29⟩,h27,hr⟩:=bs hr
                    try dsimp only at hr
                    first|apply TD.cal (wn T) rfl goFn27 (Spec.ov (ref07_NumbersOf_spec h27) (by decide)) rfl rfl rfl|apply TD.calw (wn T) rfl goFn27 (Spec.ov (ref07_NumbersOf_spec h27) (by decide)) rfl rfl rfl rfl
                    repeat exact sd T
                    refine wa_ T (g:=?_)
                    apply TD.pop1 (wn T) (pop_eqs1 (X:=⟨[.int .i64 (v13),.int .i64 (v14)]⟩) (Y:=⟨[.int .i64 (v28),.int .i64 (v29)]⟩) rfl rfl rfl rfl rfl rfl rfl eqg45 eqs45 rfl)
                    repeat exact sd T
                    refine wa_ T (g:=?_)
                    rcases ifs hr with ⟨h28,hr⟩|⟨h28,hr⟩
                    · have T:=an h28 T
                      refine wa_ T (g:=?_)
                      rcases ifs hr with ⟨h29,hr⟩|⟨h29,hr⟩
                      · have T:=an h29 T
                        refine wA T (g:=?_)
                        apply TD.pop1 (wn T) (pop_eqs1 (X:=⟨[.int .i64 (v23),.int .i64 (v24)]⟩) (Y:=⟨[.int .i64 (v10),.int .i64 (v11)]⟩) rfl rfl rfl rfl rfl rfl rfl eqg45 eqs45 rfl)
                        repeat exact sd T
                        refine wa_ T (g:=?_)
                        exact lv T hr
                      · have T:=an h29 T
                        refine wa_ T (g:=?_)
                        exact lv T hr
                    · have T:=an h28 T
                      refine wa_ T (g:=?_)
                      exact lv T hr
                  · have T:=an h26 T
                    refine wa_ T (g:=?_)
                    exact lv T hr
                · have T:=an h25 T
                  refine wa_ T (g:=?_)
                  exact lv T hr
              · have T:=an h23 T
                refine wa_ T (g:=?_)
                exact lv T hr
          · have T:=an h16 T
            refine wa_ T (g:=?_)
            exact lv T hr
      · have T:=an h14 T
        refine wA T (g:=?_)
        obtain ⟨⟨v30,v31,v32⟩,h30,hr⟩:=bs hr
        try dsimp only at hr
        apply TO.cal (wn T) rfl goFn21 (Spec.ov (array_Strength_spec h30) (by decide)) rfl rfl rfl
        repeat exact sd T
        refine wa_ T (g:=?_)
        rcases ifs hr with ⟨h31,hr⟩|⟨h31,hr⟩
        · have T:=an h31 T
          refine wa_ T (g:=?_)
          exact lv T hr
        · have T:=an h31 T
          refine wA T (g:=?_)
          obtain ⟨⟨v33,v34⟩,h32,hr⟩:=bs hr
          try dsimp only at hr
          first|apply TD.cal (wn T) rfl goFn24 (Spec.ov (ref07_Strength_spec h32) (by decide)) rfl rfl rfl|apply TD.calw (wn T) rfl goFn24 (Spec.ov (ref07_Strength_spec h32) (by decide)) rfl rfl rfl rfl
          repeat exact sd T
          refine wa_ T (g:=?_)
          apply TD.pop1 (wn T) (pop_eqs2 (X:=⟨[.int .i64 (v16),.int .i64 (v17)]⟩) (Y:=⟨[.int .i64 (v33),.int .i64 (v34)]⟩) rfl rfl rfl rfl rfl rfl rfl eqg45 eqs45 rfl)
          repeat exact sd T
          refine wa_ T (g:=?_)
          rcases ifs hr with ⟨h33,hr⟩|⟨h33,hr⟩
          · have T:=an h33 T
            refine wa_ T (g:=?_)
            rcases ifs hr with ⟨h34,hr⟩|⟨h34,hr⟩
            · have T:=an h34 T
              refine wa_ T (g:=?_)
              exact lv T hr
            · have T:=an h34 T
              refine wA T (g:=?_)
              apply TD.pop1 (wn T) (pop_eqs2 (X:=⟨[.int .i64 (v30),.int .i64 (v31)]⟩) (Y:=⟨[.int .i64 (v16),.int .i64 (v17)]⟩) rfl rfl rfl rfl rfl rfl rfl eqg45 eqs45 rfl)
              repeat exact sd T
              refine wa_ T (g:=?_)
              rcases ifs hr with ⟨h35,hr⟩|⟨h35,hr⟩
              · have T:=an h35 T
                refine wA T (g:=?_)
                obtain ⟨v35,h36,hr⟩:=bs hr
                apply TO.cal (wn T) rfl goFn25 (Spec.ov (ref07_SoundErr_spec h36) (by decide)) rfl rfl rfl
                repeat exact sd T
                refine wa_ T (g:=?_)
                rcases ifs hr with ⟨h37,hr⟩|⟨h37,hr⟩
                · have T:=an h37 T
                  refine wa_ T (g:=?_)
                  rcases ifs hr with ⟨h38,hr⟩|⟨h38,hr⟩
                  · have T:=an h38 T
                    refine wa_ T (g:=?_)
                    rcases ifs hr with ⟨h39,hr⟩|⟨h39,hr⟩
                    · have T:=an h39 T
                      refine wA T (g:=?_)
                      apply TO.pop1 (wn T) (pop_eqs1 (X:=⟨[.int .i64 (v10),.int .i64 (v11)]⟩) (Y:=⟨[.int .i64 (0),.int .i64 (0)]⟩) rfl rfl rfl rfl rfl rfl rfl eqg45 eqs45 rfl)
                      repeat exact sd T
                      refine wa_ T (g:=?_)
                      rcases ifs hr with ⟨h40,hr⟩|⟨h40,hr⟩
                      · have T:=an h40 T
                        refine wA T (g:=?_)
                        apply TO.pop1 (wn T) (pop_eqs1 (X:=⟨[.int .i64 (v13),.int .i64 (v14)]⟩) (Y:=⟨[.int .i64 (0),.int .i64 (0)]⟩) rfl rfl rfl rfl rfl rfl rfl eqg45 eqs45 rfl)
                        repeat exact sd T
                        refine wa_ T (g:=?_)
                        exact lv T hr
                      · have T:=an h40 T
                        refine wa_ T (g:=?_)
                        exact lv T hr
                    · have T:=an h39 T
                      refine wa_ T (g:=?_)
                      exact lv T hr
                  · have T:=an h38 T
                    refine wa_ T (g:=?_)
                    exact lv T hr
                · have T:=an h37 T
                  refine wA T (g:=?_)
                  obtain ⟨⟨v36,v37,v38⟩,h41,hr⟩:=bs hr
                  try dsimp only at hr
                  apply TO.cal (wn T) rfl goFn19 (Spec.ov (array_Travel_spec h41) (by decide)) rfl rfl rfl
                  repeat exact sd T
                  refine wa_ T (g:=?_)
                  rcases ifs hr with ⟨h42,hr⟩|⟨h42,hr⟩
                  · have T:=an h42 T
                    refine wA T (g:=?_)
                    obtain ⟨⟨v39,v40⟩,h43,hr⟩:=bs hr
                    try dsimp only at hr
                    first|apply TD.cal (wn T) rfl goFn26 (Spec.ov (ref07_Travel_spec h43) (by decide)) rfl rfl rfl|apply TD.calw (wn T) rfl goFn26 (Spec.ov (ref07_Travel_spec h43) (by decide)) rfl rfl rfl rfl
                    repeat exact sd T
                    refine wa_ T (g:=?_)
                    apply TD.pop1 (wn T) (pop_eqs1 (X:=⟨[.int .i64 (v10),.int .i64 (v11)]⟩) (Y:=⟨[.int .i64 (v39),.int .i64 (v40)]⟩) rfl rfl rfl rfl rfl rfl rfl eqg45 eqs45 rfl)
                    repeat exact sd T
                    refine wa_ T (g:=?_)
                    rcases ifs hr with ⟨h44,hr⟩|⟨h44,hr⟩
                    · have T:=an h44 T
                      refine wa_ T (g:=?_)
                      rcases ifs hr with ⟨h45,hr⟩|⟨h45,hr⟩
                      · have T:=an h45 T
                        refine wA T (g:=?_)
                        obtain ⟨⟨v41,v42⟩,h46,hr⟩:=bs hr
                        try dsimp only at hr
                        first|apply TD.cal (wn T) rfl goFn27 (Spec.ov (ref07_NumbersOf_spec h46) (by decide)) rfl rfl rfl|apply TD.calw (wn T) rfl goFn27 (Spec.ov (ref07_NumbersOf_spec h46) (by decide)) rfl rfl rfl rfl
                        repeat exact sd T
                        refine wa_ T (g:=?_)
                        apply TD.pop1 (wn T) (pop_eqs1 (X:=⟨[.int .i64 (v13),.int .i64 (v14)]⟩) (Y:=⟨[.int .i64 (v41),.int .i64 (v42)]⟩) rfl rfl rfl rfl rfl rfl rfl eqg45 eqs45 rfl)
                        repeat exact sd T
                        refine wa_ T (g:=?_)
                        rcases ifs hr with ⟨h47,hr⟩|⟨h47,hr⟩
                        · have T:=an h47 T
                          refine wa_ T (g:=?_)
                          rcases ifs hr with ⟨h48,hr⟩|⟨h48,hr⟩
                          · have T:=an h48 T
                            refine wA T (g:=?_)
                            apply TD.pop1 (wn T) (pop_eqs1 (X:=⟨[.int .i64 (v36),.int .i64 (v37)]⟩) (Y:=⟨[.int .i64 (v10),.int .i64 (v11)]⟩) rfl rfl rfl rfl rfl rfl rfl eqg45 eqs45 rfl)
                            repeat exact sd T
                            refine wa_ T (g:=?_)
                            exact lv T hr
                          · have T:=an h48 T
                            refine wa_ T (g:=?_)
                            exact lv T hr
                        · have T:=an h47 T
                          refine wa_ T (g:=?_)
                          exact lv T hr
                      · have T:=an h45 T
                        refine wa_ T (g:=?_)
                        exact lv T hr
                    · have T:=an h44 T
                      refine wa_ T (g:=?_)
                      exact lv T hr
                  · have T:=an h42 T
                    refine wa_ T (g:=?_)
                    exact lv T hr
              · have T:=an h35 T
                refine wa_ T (g:=?_)
                exact lv T hr
          · have T:=an h33 T
            refine wa_ T (g:=?_)
            exact lv T hr
  · have T:=an h5 T
    refine wa_ T (g:=?_)
    rcases ifs hr with ⟨h49,hr⟩|⟨h49,hr⟩
    · have T:=an h49 T
      refine wa_ T (g:=?_)
      rcases ifs hr with ⟨h50,hr⟩|⟨h50,hr⟩
      · have T:=an h50 T
        refine wa_ T (g:=?_)
        rcases ifs hr with ⟨h51,hr⟩|⟨h51,hr⟩
        · have T:=an h51 T
          refine wa_ T (g:=?_)
          rcases ifs hr with ⟨h52,hr⟩|⟨h52,hr⟩
          · have T:=an h52 T
            refine wA T (g:=?_)
            apply TO.pop1 (wn T) (pop_eqs1 (X:=⟨[.int .i64 (v10),.int .i64 (v11)]⟩) (Y:=⟨[.int .i64 (0),.int .i64 (0)]⟩) rfl rfl rfl rfl rfl rfl rfl eqg45 eqs45 rfl)
            repeat exact sd T
            refine wa_ T (g:=?_)
            rcases ifs hr with ⟨h53,hr⟩|⟨h53,hr⟩
            · have T:=an h53 T
              refine wA T (g:=?_)
              apply TO.pop1 (wn T) (pop_eqs1 (X:=⟨[.int .i64 (v13),.int .i64 (v14)]⟩) (Y:=⟨[.int .i64 (0),.int .i64 (0)]⟩) rfl rfl rfl rfl rfl rfl rfl eqg45 eqs45 rfl)
              repeat exact sd T
              refine wa_ T (g:=?_)
              rcases ifs hr with ⟨h54,hr⟩|⟨h54,hr⟩
              · have T:=an h54 T
                refine wA T (g:=?_)
                apply TO.pop1 (wn T) (pop_eqs1 (X:=⟨[.int .i64 (v16),.int .i64 (v17)]⟩) (Y:=⟨[.int .i64 (0),.int .i64 (0)]⟩) rfl rfl rfl rfl rfl rfl rfl eqg45 eqs45 rfl)
                repeat exact sd T
                refine wa_ T (g:=?_)
                exact lv T hr
              · have T:=an h54 T
                refine wa_ T (g:=?_)
                exact lv T hr
            · have T:=an h53 T
              refine wa_ T (g:=?_)
              exact lv T hr
          · have T:=an h52 T
            refine wa_ T (g:=?_)
            exact lv T hr
        · have T:=an h51 T
          refine wa_ T (g:=?_)
          exact lv T hr
      · have T:=an h50 T
        refine wa_ T (g:=?_)
        exact lv T hr
    · have T:=an h49 T
      refine wA T (g:=?_)
      obtain ⟨v43,h55,hr⟩:=bs hr
      apply TO.cal (wn T) rfl goFn23 (Spec.ov (ref07_Near_spec h55) (by decide)) rfl rfl rfl
      repeat exact sd T
      refine wa_ T (g:=?_)
      rcases ifs hr with ⟨h56,hr⟩|⟨h56,hr⟩
      · have T:=an h56 T
        refine wa_ T (g:=?_)
        rcases ifs hr with ⟨h57,hr⟩|⟨h57,hr⟩
        · have T:=an h57 T
          refine wa_ T (g:=?_)
          exact lv T hr
        · have T:=an h57 T
          refine wA T (g:=?_)
          apply TO.pop1 (wn T) (pop_eqs2 (X:=⟨[.int .i64 (v16),.int .i64 (v17)]⟩) (Y:=⟨[.int .i64 (0),.int .i64 (0)]⟩) rfl rfl rfl rfl rfl rfl rfl eqg45 eqs45 rfl)
          repeat exact sd T
          refine wa_ T (g:=?_)
          rcases ifs hr with ⟨h58,hr⟩|⟨h58,hr⟩
          · have T:=an h58 T
            refine wA T (g:=?_)
            obtain ⟨v44,h59,hr⟩:=bs hr
            apply TO.cal (wn T) rfl goFn25 (Spec.ov (ref07_SoundErr_spec h59) (by decide)) rfl rfl rfl
            repeat exact sd T
            refine wa_ T (g:=?_)
            rcases ifs hr with ⟨h60,hr⟩|⟨h60,hr⟩
            · have T:=an h60 T
              refine wa_ T (g:=?_)
              rcases ifs hr with ⟨h61,hr⟩|⟨h61,hr⟩
              · have T:=an h61 T
                refine wa_ T (g:=?_)
                rcases ifs hr with ⟨h62,hr⟩|⟨h62,hr⟩
                · have T:=an h62 T
                  refine wA T (g:=?_)
                  apply TO.pop1 (wn T) (pop_eqs1 (X:=⟨[.int .i64 (v10),.int .i64 (v11)]⟩) (Y:=⟨[.int .i64 (0),.int .i64 (0)]⟩) rfl rfl rfl rfl rfl rfl rfl eqg45 eqs45 rfl)
                  repeat exact sd T
                  refine wa_ T (g:=?_)
                  rcases ifs hr with ⟨h63,hr⟩|⟨h63,hr⟩
                  · have T:=an h63 T
                    refine wA T (g:=?_)
                    apply TO.pop1 (wn T) (pop_eqs1 (X:=⟨[.int .i64 (v13),.int .i64 (v14)]⟩) (Y:=⟨[.int .i64 (0),.int .i64 (0)]⟩) rfl rfl rfl rfl rfl rfl rfl eqg45 eqs45 rfl)
                    repeat exact sd T
                    refine wa_ T (g:=?_)
                    exact lv T hr
                  · have T:=an h63 T
                    refine wa_ T (g:=?_)
                    exact lv T hr
                · have T:=an h62 T
                  refine wa_ T (g:=?_)
                  exact lv T hr
              · have T:=an h61 T
                refine wa_ T (g:=?_)
                exact lv T hr
            · have T:=an h60 T
              refine wA T (g:=?_)
              obtain ⟨⟨v45,v46,v47⟩,h64,hr⟩:=bs hr
              try dsimp only at hr
              apply TO.cal (wn T) rfl goFn19 (Spec.ov (array_Travel_spec h64) (by decide)) rfl rfl rfl
              repeat exact sd T
              refine wa_ T (g:=?_)
              rcases ifs hr with ⟨h65,hr⟩|⟨h65,hr⟩
              · have T:=an h65 T
                refine wA T (g:=?_)
                obtain ⟨⟨v48,v49⟩,h66,hr⟩:=bs hr
                try dsimp only at hr
                first|apply TD.cal (wn T) rfl goFn26 (Spec.ov (ref07_Travel_spec h66) (by decide)) rfl rfl rfl|apply TD.calw (wn T) rfl goFn26 (Spec.ov (ref07_Travel_spec h66) (by decide)) rfl rfl rfl rfl
                repeat exact sd T
                refine wa_ T (g:=?_)
                apply TD.pop1 (wn T) (pop_eqs1 (X:=⟨[.int .i64 (v10),.int .i64 (v11)]⟩) (Y:=⟨[.int .i64 (v48),.int .i64 (v49)]⟩) rfl rfl rfl rfl rfl rfl rfl eqg45 eqs45 rfl)
                repeat exact sd T
                refine wa_ T (g:=?_)
                rcases ifs hr with ⟨h67,hr⟩|⟨h67,hr⟩
                · have T:=an h67 T
                  refine wa_ T (g:=?_)
                  rcases ifs hr with ⟨h68,hr⟩|⟨h68,hr⟩
                  · have T:=an h68 T
                    refine wA T (g:=?_)
                    obtain ⟨⟨v50,v51⟩,h69,hr⟩:=bs hr
                    try dsimp only at hr
                    first|apply TD.cal (wn T) rfl goFn27 (Spec.ov (ref07_NumbersOf_spec h69) (by decide)) rfl rfl rfl|apply TD.calw (wn T) rfl goFn27 (Spec.ov (ref07_NumbersOf_spec h69) (by decide)) rfl rfl rfl rfl
                    repeat exact sd T
                    refine wa_ T (g:=?_)
                    apply TD.pop1 (wn T) (pop_eqs1 (X:=⟨[.int .i64 (v13),.int .i64 (v14)]⟩) (Y:=⟨[.int .i64 (v50),.int .i64 (v51)]⟩) rfl rfl rfl rfl rfl rfl rfl eqg45 eqs45 rfl)
                    repeat exact sd T
                    refine wa_ T (g:=?_)
                    rcases ifs hr with ⟨h70,hr⟩|⟨h70,hr⟩
                    · have T:=an h70 T
                      refine wa_ T (g:=?_)
                      rcases ifs hr with ⟨h71,hr⟩|⟨h71,hr⟩
                      · have T:=an h71 T
                        refine wA T (g:=?_)
                        apply TD.pop1 (wn T) (pop_eqs1 (X:=⟨[.int .i64 (v45),.int .i64 (v46)]⟩) (Y:=⟨[.int .i64 (v10),.int .i64 (v11)]⟩) rfl rfl rfl rfl rfl rfl rfl eqg45 eqs45 rfl)
                        repeat exact sd T
                        refine wa_ T (g:=?_)
                        exact lv T hr
                      · have T:=an h71 T
                        refine wa_ T (g:=?_)
                        exact lv T hr
                    · have T:=an h70 T
                      refine wa_ T (g:=?_)
                      exact lv T hr
                  · have T:=an h68 T
                    refine wa_ T (g:=?_)
                    exact lv T hr
                · have T:=an h67 T
                  refine wa_ T (g:=?_)
                  exact lv T hr
              · have T:=an h65 T
                refine wa_ T (g:=?_)
                exact lv T hr
          · have T:=an h58 T
            refine wa_ T (g:=?_)
            exact lv T hr
      · have T:=an h56 T
        refine wA T (g:=?_)
        obtain ⟨⟨v52,v53,v54⟩,h72,hr⟩:=bs hr
        try dsimp only at hr
        apply TO.cal (wn T) rfl goFn21 (Spec.ov (array_Strength_spec h72) (by decide)) rfl rfl rfl
        repeat exact sd T
        refine wa_ T (g:=?_)
        rcases ifs hr with ⟨h73,hr⟩|⟨h73,hr⟩
        · have T:=an h73 T
          refine wa_ T (g:=?_)
          exact lv T hr
        · have T:=an h73 T
          refine wA T (g:=?_)
          obtain ⟨⟨v55,v56⟩,h74,hr⟩:=bs hr
          try dsimp only at hr
          first|apply TD.cal (wn T) rfl goFn24 (Spec.ov (ref07_Strength_spec h74) (by decide)) rfl rfl rfl|apply TD.calw (wn T) rfl goFn24 (Spec.ov (ref07_Strength_spec h74) (by decide)) rfl rfl rfl rfl
          repeat exact sd T
          refine wa_ T (g:=?_)
          apply TD.pop1 (wn T) (pop_eqs2 (X:=⟨[.int .i64 (v16),.int .i64 (v17)]⟩) (Y:=⟨[.int .i64 (v55),.int .i64 (v56)]⟩) rfl rfl rfl rfl rfl rfl rfl eqg45 eqs45 rfl)
          repeat exact sd T
          refine wa_ T (g:=?_)
          rcases ifs hr with ⟨h75,hr⟩|⟨h75,hr⟩
          · have T:=an h75 T
            refine wa_ T (g:=?_)
            rcases ifs hr with ⟨h76,hr⟩|⟨h76,hr⟩
            · have T:=an h76 T
              refine wa_ T (g:=?_)
              exact lv T hr
            · have T:=an h76 T
              refine wA T (g:=?_)
              apply TD.pop1 (wn T) (pop_eqs2 (X:=⟨[.int .i64 (v52),.int .i64 (v53)]⟩) (Y:=⟨[.int .i64 (v16),.int .i64 (v17)]⟩) rfl rfl rfl rfl rfl rfl rfl eqg45 eqs45 rfl)
              repeat exact sd T
              refine wa_ T (g:=?_)
              rcases ifs hr with ⟨h77,hr⟩|⟨h77,hr⟩
              · have T:=an h77 T
                refine wA T (g:=?_)
                obtain ⟨v57,h78,hr⟩:=bs hr
                apply TO.cal (wn T) rfl goFn25 (Spec.ov (ref07_SoundErr_spec h78) (by decide)) rfl rfl rfl
                repeat exact sd T
                refine wa_ T (g:=?_)
                rcases ifs hr with ⟨h79,hr⟩|⟨h79,hr⟩
                · have T:=an h79 T
                  refine wa_ T (g:=?_)
                  rcases ifs hr with ⟨h80,hr⟩|⟨h80,hr⟩
                  · have T:=an h80 T
                    refine wa_ T (g:=?_)
                    rcases ifs hr with ⟨h81,hr⟩|⟨h81,hr⟩
                    · have T:=an h81 T
                      refine wA T (g:=?_)
                      apply TO.pop1 (wn T) (pop_eqs1 (X:=⟨[.int .i64 (v10),.int .i64 (v11)]⟩) (Y:=⟨[.int .i64 (0),.int .i64 (0)]⟩) rfl rfl rfl rfl rfl rfl rfl eqg45 eqs45 rfl)
                      repeat exact sd T
                      refine wa_ T (g:=?_)
                      rcases ifs hr with ⟨h82,hr⟩|⟨h82,hr⟩
                      · have T:=an h82 T
                        refine wA T (g:=?_)
                        apply TO.pop1 (wn T) (pop_eqs1 (X:=⟨[.int .i64 (v13),.int .i64 (v14)]⟩) (Y:=⟨[.int .i64 (0),.int .i64 (0)]⟩) rfl rfl rfl rfl rfl rfl rfl eqg45 eqs45 rfl)
                        repeat exact sd T
                        refine wa_ T (g:=?_)
                        exact lv T hr
                      · have T:=an h82 T
                        refine wa_ T (g:=?_)
                        exact lv T hr
                    · have T:=an h81 T
                      refine wa_ T (g:=?_)
                      exact lv T hr
                  · have T:=an h80 T
                    refine wa_ T (g:=?_)
                    exact lv T hr
                · have T:=an h79 T
                  refine wA T (g:=?_)
                  obtain ⟨⟨v58,v59,v60⟩,h83,hr⟩:=bs hr
                  try dsimp only at hr
                  apply TO.cal (wn T) rfl goFn19 (Spec.ov (array_Travel_spec h83) (by decide)) rfl rfl rfl
                  repeat exact sd T
                  refine wa_ T (g:=?_)
                  rcases ifs hr with ⟨h84,hr⟩|⟨h84,hr⟩
                  · have T:=an h84 T
                    refine wA T (g:=?_)
                    obtain ⟨⟨v61,v62⟩,h85,hr⟩:=bs hr
                    try dsimp only at hr
                    first|apply TD.cal (wn T) rfl goFn26 (Spec.ov (ref07_Travel_spec h85) (by decide)) rfl rfl rfl|apply TD.calw (wn T) rfl goFn26 (Spec.ov (ref07_Travel_spec h85) (by decide)) rfl rfl rfl rfl
                    repeat exact sd T
                    refine wa_ T (g:=?_)
                    apply TD.pop1 (wn T) (pop_eqs1 (X:=⟨[.int .i64 (v10),.int .i64 (v11)]⟩) (Y:=⟨[.int .i64 (v61),.int .i64 (v62)]⟩) rfl rfl rfl rfl rfl rfl rfl eqg45 eqs45 rfl)
                    repeat exact sd T
                    refine wa_ T (g:=?_)
                    rcases ifs hr with ⟨h86,hr⟩|⟨h86,hr⟩
                    · have T:=an h86 T
                      refine wa_ T (g:=?_)
                      rcases ifs hr with ⟨h87,hr⟩|⟨h87,hr⟩
                      · have T:=an h87 T
                        refine wA T (g:=?_)
                        obtain ⟨⟨v63,v64⟩,h88,hr⟩:=bs hr
                        try dsimp only at hr
                        first|apply TD.cal (wn T) rfl goFn27 (Spec.ov (ref07_NumbersOf_spec h88) (by decide)) rfl rfl rfl|apply TD.calw (wn T) rfl goFn27 (Spec.ov (ref07_NumbersOf_spec h88) (by decide)) rfl rfl rfl rfl
                        repeat exact sd T
                        refine wa_ T (g:=?_)
                        apply TD.pop1 (wn T) (pop_eqs1 (X:=⟨[.int .i64 (v13),.int .i64 (v14)]⟩) (Y:=⟨[.int .i64 (v63),.int .i64 (v64)]⟩) rfl rfl rfl rfl rfl rfl rfl eqg45 eqs45 rfl)
                        repeat exact sd T
                        refine wa_ T (g:=?_)
                        rcases ifs hr with ⟨h89,hr⟩|⟨h89,hr⟩
                        · have T:=an h89 T
                          refine wa_ T (g:=?_)
                          rcases ifs hr with ⟨h90,hr⟩|⟨h90,hr⟩
                          · have T:=an h90 T
                            refine wA T (g:=?_)
                            apply TD.pop1 (wn T) (pop_eqs1 (X:=⟨[.int .i64 (v58),.int .i64 (v59)]⟩) (Y:=⟨[.int .i64 (v10),.int .i64 (v11)]⟩) rfl rfl rfl rfl rfl rfl rfl eqg45 eqs45 rfl)
                            repeat exact sd T
                            refine wa_ T (g:=?_)
                            exact lv T hr
                          · have T:=an h90 T
                            refine wa_ T (g:=?_)
                            exact lv T hr
                        · have T:=an h89 T
                          refine wa_ T (g:=?_)
                          exact lv T hr
                      · have T:=an h87 T
                        refine wa_ T (g:=?_)
                        exact lv T hr
                    · have T:=an h86 T
                      refine wa_ T (g:=?_)
                      exact lv T hr
                  · have T:=an h84 T
                    refine wa_ T (g:=?_)
                    exact lv T hr
              · have T:=an h77 T
                refine wa_ T (g:=?_)
                exact lv T hr
          · have T:=an h75 T
            refine wa_ T (g:=?_)
            exact lv T hr

end Go.Rex
