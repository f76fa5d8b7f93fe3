/- Proofs that the program's functions do what these plain functions say. -/
import Derived.Test.YtplnankdicpenaaDoorGB
import Derived.Test.YtplnankdicpenaaDoorS
import Derived.Test.YtplnankdicpenaaDoorCZ
set_option linter.unusedSimpArgs false
set_option linter.unusedVariables false
set_option linter.defProp false
namespace Go.Rex
open Go.Proofs
open Go Go.Rex Go.RowKit
set_option maxRecDepth 100000
set_option maxHeartbeats 200000
def y1:=an @ag22 <| an @fd24_1 <| @so22
theorem law05_Few_spec {v1 : Int} {v2 : (List Nat)} {v3 : Bool} (hr : law05_Few v1 v2 = some (v3)) : Spec (lim Tryd.prog) 5 [.agg [.v (.int .i64 v1),.list 1 (v2.map e_f)]] ⟨[.v (.bool v3)],[]⟩:=by
  unfold law05_Few at hr
  have T:=an y1 <| @e_f.eq_1
  apply Spec.fn Tryd.func5 rfl
  focus (simp [Tryd.f5]<;>exact rfl)
  focus
    refine wD T (g:=?_)
    rcases ifs hr with ⟨h1,hr⟩|⟨h1,hr⟩
    · have T:=an h1 T
      refine wa_ T (g:=?_)
      cases hr
      refine ⟨.inr rfl,_,(ry T),?_⟩
      exact wk_ T [] rfl .nil
    · have T:=an h1 T
      refine wC T (g:=?_)
      rcases ifs hr with ⟨h2,hr⟩|⟨h2,hr⟩
      · have T:=an h2 T
        refine wC T (g:=?_)
        cases hr
        refine ⟨.inr rfl,_,(ry T),?_⟩
        exact wk_ T [] rfl .nil
      · have T:=an h2 T
        refine wa_ T (g:=?_)
        cases hr
        refine ⟨.inr rfl,_,(ry T),?_⟩
        exact wk_ T [] rfl .nil
  rfl

end Go.Rex

namespace Go.Rex
open Go.Proofs
open Go Go.Rex Go.RowKit
set_option maxRecDepth 100000
set_option maxHeartbeats 200000
theorem base_Within_spec {v1 : Int} {v2 : Int} {v3 : Int} {v4 : Bool} (hr : base_Within v1 v2 v3 = some (v4)) : Spec (lim Tryd.prog) 6 [.v (.int .i64 v1),.v (.int .i64 v2),.v (.int .i64 v3)] ⟨[.v (.bool v4)],[]⟩:=by
  unfold base_Within at hr
  have T:=trivial
  apply Spec.fn Tryd.func6 rfl
  focus (simp [Tryd.f6]<;>exact rfl)
  focus
    refine wa_ T (g:=?_)
    rcases ifs hr with ⟨h1,hr⟩|⟨h1,hr⟩
    · have T:=an h1 T
      refine wa_ T (g:=?_)
      cases hr
      refine ⟨.inr rfl,_,(ry T),?_⟩
      exact wk_ T [] rfl .nil
    · have T:=an h1 T
      refine wa_ T (g:=?_)
      cases hr
      refine ⟨.inr rfl,_,(ry T),?_⟩
      exact wk_ T [] rfl .nil
  rfl

end Go.Rex

namespace Go.Rex
open Go.Proofs
open Go Go.Rex Go.RowKit
set_option maxRecDepth 100000
set_option maxHeartbeats 200000
def y2:=an @ag22 <| an @ag24 <| an @ag3 <| an @by63 <| an @cs24 <| an @cs63 <| an @fd24_0 <| an @fd24_1 <| an @ni22 <| an @ok24 <| an @so22 <| an @st24 <| an @zc24 <| @zc63
theorem base_CopyResponse_spec {v1 : Int} {v2 : (List Nat)} {v3 : Int} {v4 : (List Nat)} (hr : base_CopyResponse v1 v2 = some (v3,v4)) : Spec (lim Tryd.prog) 7 [.agg [.v (.int .i64 v1),.list 1 (v2.map e_f)]] ⟨[.agg [.v (.int .i64 v3),.lsl 0 0 v4.length]],[.rows 1 (v4.map e_f)]⟩:=by
  unfold base_CopyResponse at hr
  have T:=an y2 <| @e_f.eq_1
  apply Spec.fn Tryd.func7 rfl
  focus (simp [Tryd.f7]<;>exact rfl)
  focus
    repeat (first|(with_reducible first|refine mv ?_|refine TO.nil ?_)|((with_reducible first|apply TO.bf|apply TO.al);(repeat (focus (show _ = _;first|exact k1 rfl|exact k2 rfl|(simp only [zz,y2,e_f,Nat.reduceAdd,Nat.reduceMul,Nat.reduceLeDiff,Nat.reduceEqDiff]<;>exact rfl)|exact rfl)));(with_reducible apply TO.here))|((with_reducible apply TX.region);(focus (simp only [zl]<;>exact rfl));(focus rfl);(try dsimp only))|with_reducible refine TD.nil ?_|((with_reducible first|apply TD.fa|apply TD.ld );(repeat (focus (show _ = _;first|exact k1 rfl|exact k2 rfl|(simp only [zz,y2,e_f,Nat.reduceAdd,Nat.reduceMul,Nat.reduceLeDiff,Nat.reduceEqDiff,tfieldAddr,tload,rowOf,partT,List.getElem?_map]<;>exact rfl)|exact rfl)));(with_reducible refine TD.here ?_))|((with_reducible apply TD.ldF);(focus decide +kernel);(repeat (focus (show _ = _;first|exact k1 rfl|exact k2 rfl|(simp only [zz,y2,e_f,Nat.reduceAdd,Nat.reduceMul,Nat.reduceLeDiff,Nat.reduceEqDiff,tfieldAddr,tload,rowOf,partT,List.getElem?_map]<;>exact rfl)|exact rfl)));(with_reducible refine TD.here ?_))|((with_reducible apply TX.drawn);(focus decide +kernel);(focus (simp only [zl]<;>exact rfl));(focus exact rfl);(try dsimp only))|fail)
    apply TD.bl e_f ([] : List Nat) (wn T) rfl (by simp only [zz,y2,e_f,Nat.reduceAdd,Nat.reduceMul,Nat.reduceLeDiff,Nat.reduceEqDiff,tslice,tparts];exact rfl) rfl rfl
    repeat exact sd T
    repeat (first|(with_reducible first|refine mv ?_|refine TD.nil ?_)|((with_reducible first|apply TD.fa|apply TD.ld );(repeat (focus (show _ = _;first|exact k1 rfl|exact k2 rfl|(simp only [zz,y2,e_f,Nat.reduceAdd,Nat.reduceMul,Nat.reduceLeDiff,Nat.reduceEqDiff,tfieldAddr,tload,rowOf,partT,List.getElem?_map]<;>exact rfl)|exact rfl)));(with_reducible refine TD.here ?_))|((with_reducible apply TD.ldF);(focus decide +kernel);(repeat (focus (show _ = _;first|exact k1 rfl|exact k2 rfl|(simp only [zz,y2,e_f,Nat.reduceAdd,Nat.reduceMul,Nat.reduceLeDiff,Nat.reduceEqDiff,tfieldAddr,tload,rowOf,partT,List.getElem?_map]<;>exact rfl)|exact rfl)));(with_reducible refine TD.here ?_))|((with_reducible apply TX.drawn);(focus decide +kernel);(focus (simp only [zl]<;>exact rfl));(focus exact rfl);(try dsimp only))|fail)
    obtain ⟨v5,h1,hr⟩:=bs hr
    apply TD.apf (f:=e_f) (xs:=([] : List Nat)) (ys:=v2) (wn T) rfl rfl (by first|rfl|simp only [List.length_set]) rfl rfl so22 ni22 zc63 rfl (by rw [by63];exact h1) (fun _=>⟨rfl,rfl,rfl⟩) rfl
    repeat exact sd T
    refine wa_ T (g:=?_)
    cases hr
    refine ⟨.inr rfl,_,(ry T),?_⟩
    exact wr [some 1] rfl (.rows .nil rfl rfl)
  rfl

end Go.Rex

namespace Go.Rex
open Go.Proofs
open Go Go.Rex Go.RowKit
set_option maxRecDepth 100000
set_option maxHeartbeats 200000
theorem figure_refuse_spec {v1 : Bool} {v2 : Int} {v3 : Int} (hr : figure_refuse v1 v2 = some (v3)) : Spec (lim Tryd.prog) 29 [.v (.bool v1),.v (.int .i64 v2)] ⟨[.v (.int .i64 v3)],[]⟩:=by
  unfold figure_refuse at hr
  have T:=trivial
  apply Spec.fn Tryd.func29 rfl
  focus (simp [Tryd.f29]<;>exact rfl)
  focus
    refine wa_ T (g:=?_)
    rcases ifs hr with ⟨h1,hr⟩|⟨h1,hr⟩
    · have T:=an h1 T
      refine wa_ T (g:=?_)
      cases hr
      refine ⟨.inr rfl,_,(ry T),?_⟩
      exact wk_ T [] rfl .nil
    · have T:=an h1 T
      refine wa_ T (g:=?_)
      cases hr
      refine ⟨.inr rfl,_,(ry T),?_⟩
      exact wk_ T [] rfl .nil
  rfl

end Go.Rex

namespace Go.Rex
open Go.Proofs
open Go Go.Rex Go.RowKit
set_option maxRecDepth 100000
set_option maxHeartbeats 200000
theorem figure_within_spec {v1 : Int} {v2 : Int} {v3 : Int} {v4 : Int} (hr : figure_within v1 v2 v3 = some (v4)) : Spec (lim Tryd.prog) 35 [.v (.int .i64 v1),.v (.int .i64 v2),.v (.int .i64 v3)] ⟨[.v (.int .i64 v4)],[]⟩:=by
  unfold figure_within at hr
  have T:=trivial
  apply Spec.fn Tryd.func35 rfl
  focus (simp [Tryd.f35]<;>exact rfl)
  focus
    refine wa_ T (g:=?_)
    rcases ifs hr with ⟨h1,hr⟩|⟨h1,hr⟩
    · have T:=an h1 T
      refine wa_ T (g:=?_)
      obtain ⟨v5,h2,hr⟩:=bs hr
      apply TO.cal (wn T) rfl goFn29 (figure_refuse_spec h2) rfl rfl rfl
      repeat exact sd T
      refine wa_ T (g:=?_)
      cases hr
      refine ⟨.inr rfl,_,(ry T),?_⟩
      exact wk_ T [] rfl .nil
    · have T:=an h1 T
      refine wa_ T (g:=?_)
      obtain ⟨v6,h3,hr⟩:=bs hr
      apply TO.cal (wn T) rfl goFn29 (figure_refuse_spec h3) rfl rfl rfl
      repeat exact sd T
      refine wa_ T (g:=?_)
      cases hr
      refine ⟨.inr rfl,_,(ry T),?_⟩
      exact wk_ T [] rfl .nil
  rfl

end Go.Rex

namespace Go.Rex
open Go.Proofs
open Go Go.Rex Go.RowKit
set_option maxRecDepth 100000
set_option maxHeartbeats 200000
theorem figure_rateError_spec {v1 : Int} {v2 : Int} (hr : figure_rateError v1 = some (v2)) : Spec (lim Tryd.prog) 62 [.v (.int .i64 v1)] ⟨[.v (.int .i64 v2)],[]⟩:=by
  unfold figure_rateError at hr
  have T:=trivial
  apply Spec.fn Tryd.func62 rfl
  focus (simp [Tryd.f62]<;>exact rfl)
  focus
    refine wa_ T (g:=?_)
    obtain ⟨v3,h1,hr⟩:=bs hr
    apply TO.cal (wn T) rfl goFn35 (figure_within_spec h1) rfl rfl rfl
    repeat exact sd T
    refine wa_ T (g:=?_)
    cases hr
    refine ⟨.inr rfl,_,(ry T),?_⟩
    exact wr [] rfl .nil
  rfl

end Go.Rex

namespace Go.Rex
open Go.Proofs
open Go Go.Rex Go.RowKit
set_option maxRecDepth 100000
set_option maxHeartbeats 200000
def y3:=an @ag33 <| an @cs33 <| an @ok33 <| an @so72 <| @wi64_0a1
theorem figure_firstError_spec {v1 : (List Int)} {v2 : Int} (hr : figure_firstError v1 = some (v2)) : Spec (lim Tryd.prog) 17 [.list 1 (v1.map e_i)] ⟨[.v (.int .i64 v2)],[]⟩:=by
  unfold figure_firstError at hr
  have T:=an y3 <| @e_i.eq_1
  apply Spec.fn Tryd.func17 rfl
  focus (simp [Tryd.f17]<;>exact rfl)
  focus
    refine wc_ T (g:=?_)
    obtain ⟨v7,h7,hr⟩:=bs hr
    refine TX.loopE (step:=figure_firstError_l1 v1) (x:=0) h7 (fun v3=>⟨.junk :: .junk :: .junk :: .junk :: .junk :: .list 1 (v1.map e_i) :: .v (.int .i64 (v1.length : Int)) :: .v (.int .i64 v3) :: .junk :: .junk :: .junk :: .junk :: .junk :: .junk :: .junk :: [],[]⟩) (fun e=>match e with|(.inl v5)=>(.ret,⟨.junk :: .junk :: .v (.int .i64 v5) :: .junk :: .junk :: .junk :: .junk :: .junk :: .junk :: .junk :: .junk :: .junk :: .junk :: .junk :: .junk :: [],[]⟩)|(.inr _)=>(.exit 0,⟨.junk :: .junk :: .junk :: .junk :: .junk :: .junk :: .junk :: .junk :: .junk :: .junk :: .junk :: .junk :: .junk :: .junk :: .junk :: [],[]⟩)) ?_ ?_ ?_ ?_
    · rintro v3 v0 hr
      dsimp only [figure_firstError_l1] at hr
      try dsimp only
      refine wa_ T (g:=?_)
      rcases ifs hr with ⟨h4,hr⟩|⟨h4,hr⟩
      · have T:=an h4 T
        refine wa_ T (g:=?_)
        obtain ⟨v6,h5,hr⟩:=bs hr
        have T:=an (gx e_i h5) T
        refine wA T (g:=?_)
        rcases ifs hr with ⟨h6,hr⟩|⟨h6,hr⟩
        · have T:=an h6 T
          refine wa_ T (g:=?_)
          cases hr
          refine ⟨rfl,?_⟩
          exact wk_ T [] rfl .nil
        · have T:=an h6 T
          refine wa_ T (g:=?_)
          cases hr
          refine ⟨rfl,?_⟩
          exact wk_ T [] rfl .nil
      · have T:=an h4 T
        refine wa_ T (g:=?_)
        cases hr
        refine ⟨rfl,?_⟩
        exact wk_ T [] rfl .nil
    · intro e h;rcases e with _|e<;>cases h
    · try dsimp only
      rcases v7 with v8|_
      · try dsimp only at hr
        try dsimp only
        refine wa_ T (g:=?_)
        cases hr
        refine ⟨.inr rfl,_,(ry T),?_⟩
        exact wr [] rfl .nil
      · try dsimp only at hr
        try dsimp only
        refine wa_ T (g:=?_)
        cases hr
        refine ⟨.inr rfl,_,(ry T),?_⟩
        exact wr [] rfl .nil
    · try dsimp only
      exact wr [] rfl .nil
  rfl

end Go.Rex

namespace Go.Rex
open Go.Proofs
open Go Go.Rex Go.RowKit
set_option maxRecDepth 100000
set_option maxHeartbeats 200000
def y4:=an @ar_93 <| @ex93
theorem math_Trunc_spec {v1 : Nat} {v2 : Nat} (hr : math_Trunc v1 = some (v2)) : Spec (lim Tryd.prog) 87 [.v (.float .f64 v1)] ⟨[.v (.float .f64 v2)],[]⟩:=by
  unfold math_Trunc at hr
  have T:=y4
  apply Spec.fn Tryd.func87 rfl
  focus (simp [Tryd.f87]<;>exact rfl)
  focus
    refine wa_ T (g:=?_)
    obtain ⟨v3,h1,hr⟩:=bs hr
    apply TO.tr (wn T) rfl ex93 ar_93 (by simp only [z1,z3,zl]<;>rfl) h1
    repeat exact sd T
    refine wa_ T (g:=?_)
    cases hr
    refine ⟨.inr rfl,_,(ry T),?_⟩
    exact wr [] rfl .nil
  rfl

end Go.Rex

namespace Go.Rex
open Go.Proofs
open Go Go.Rex Go.RowKit
set_option maxRecDepth 100000
set_option maxHeartbeats 200000
def y5:=an @ex98 <| @ex99
theorem math_Abs_spec {v1 : Nat} {v2 : Nat} (hr : math_Abs v1 = some (v2)) : Spec (lim Tryd.prog) 95 [.v (.float .f64 v1)] ⟨[.v (.float .f64 v2)],[]⟩:=by
  unfold math_Abs at hr
  have T:=y5
  apply Spec.fn Tryd.func95 rfl
  focus (simp [Tryd.f95]<;>exact rfl)
  focus
    refine wa_ T (g:=?_)
    obtain ⟨v3,h1,hr⟩:=bs hr
    apply TO.fb (wn T) rfl ex98 (by simp only [z1,z3,zl]<;>rfl) h1 rfl
    repeat exact sd T
    refine wa_ T (g:=?_)
    apply TO.pop1 (wn T) (pop_bits rfl rfl (by decide))
    repeat exact sd T
    refine wa_ T (g:=?_)
    apply TO.ex (wn T) rfl ex99 (by simp only [z1,z3,zl];exact rfl) rfl rfl (rfl) rfl rfl rfl
    repeat exact sd T
    refine wa_ T (g:=?_)
    cases hr
    refine ⟨.inr rfl,_,(ry T),?_⟩
    exact wr [] rfl .nil
  rfl

end Go.Rex

namespace Go.Rex
open Go.Proofs
open Go Go.Rex Go.RowKit
set_option maxRecDepth 100000
set_option maxHeartbeats 200000
theorem math_IsInf_spec {v1 : Nat} {v2 : Int} {v3 : Bool} (hr : math_IsInf v1 v2 = some (v3)) : Spec (lim Tryd.prog) 88 [.v (.float .f64 v1),.v (.int .i64 v2)] ⟨[.v (.bool v3)],[]⟩:=by
  unfold math_IsInf at hr
  have T:=trivial
  apply Spec.fn Tryd.func88 rfl
  focus (simp [Tryd.f88]<;>exact rfl)
  focus
    refine wa_ T (g:=?_)
    rcases ifs hr with ⟨h1,hr⟩|⟨h1,hr⟩
    · have T:=an h1 T
      refine wa_ T (g:=?_)
      obtain ⟨v4,h2,hr⟩:=bs hr
      apply TO.cal (wn T) rfl goFn95 (math_Abs_spec h2) rfl rfl rfl
      repeat exact sd T
      refine wa_ T (g:=?_)
      apply TO.pop1 (wn T) (pop_fcmp rfl rfl (by decide))
      repeat exact sd T
      refine wa_ T (g:=?_)
      cases hr
      refine ⟨.inr rfl,_,(ry T),?_⟩
      exact wk_ T [] rfl .nil
    · have T:=an h1 T
      refine wa_ T (g:=?_)
      rcases ifs hr with ⟨h3,hr⟩|⟨h3,hr⟩
      · have T:=an h3 T
        refine wa_ T (g:=?_)
        apply TO.pop1 (wn T) (pop_fneg rfl)
        repeat exact sd T
        refine wa_ T (g:=?_)
        apply TO.pop1 (wn T) (pop_fcmp rfl rfl (by decide))
        repeat exact sd T
        refine wa_ T (g:=?_)
        cases hr
        refine ⟨.inr rfl,_,(ry T),?_⟩
        exact wk_ T [] rfl .nil
      · have T:=an h3 T
        refine wa_ T (g:=?_)
        apply TO.pop1 (wn T) (pop_fcmp rfl rfl (by decide))
        repeat exact sd T
        refine wa_ T (g:=?_)
        cases hr
        refine ⟨.inr rfl,_,(ry T),?_⟩
        exact wk_ T [] rfl .nil
  rfl

end Go.Rex

namespace Go.Rex
open Go.Proofs
open Go Go.Rex Go.RowKit
set_option maxRecDepth 100000
set_option maxHeartbeats 200000
def y6:=an @un133 <| @un63
theorem figure_isWhole_spec {v1 : Nat} {v2 : Bool} (hr : figure_isWhole v1 = some (v2)) : Spec (lim Tryd.prog) 77 [.v (.float .f32 v1)] ⟨[.v (.bool v2)],[]⟩:=by
  unfold figure_isWhole at hr
  have T:=y6
  apply Spec.fn Tryd.func77 rfl
  focus (simp [Tryd.f77]<;>exact rfl)
  focus
    refine wa_ T (g:=?_)
    obtain ⟨v3,h1,hr⟩:=bs hr
    apply TO.pop1 (wn T) (cvt_float_float un63 un133 rfl h1)
    repeat exact sd T
    refine wa_ T (g:=?_)
    obtain ⟨v4,h2,hr⟩:=bs hr
    apply TO.cal (wn T) rfl goFn87 (math_Trunc_spec h2) rfl rfl rfl
    repeat exact sd T
    refine wa_ T (g:=?_)
    apply TO.pop1 (wn T) (pop_fcmp rfl rfl (by decide))
    repeat exact sd T
    refine wa_ T (g:=?_)
    rcases ifs hr with ⟨h3,hr⟩|⟨h3,hr⟩
    · have T:=an h3 T
      refine wa_ T (g:=?_)
      obtain ⟨v5,h4,hr⟩:=bs hr
      apply TO.cal (wn T) rfl goFn88 (math_IsInf_spec h4) rfl rfl rfl
      repeat exact sd T
      refine wa_ T (g:=?_)
      apply TO.pop1 (wn T) (pop_not rfl)
      repeat exact sd T
      refine wa_ T (g:=?_)
      cases hr
      refine ⟨.inr rfl,_,(ry T),?_⟩
      exact wk_ T [] rfl .nil
    · have T:=an h3 T
      refine wa_ T (g:=?_)
      cases hr
      refine ⟨.inr rfl,_,(ry T),?_⟩
      exact wk_ T [] rfl .nil
  rfl

end Go.Rex

namespace Go.Rex
open Go.Proofs
open Go Go.Rex Go.RowKit
set_option maxRecDepth 100000
set_option maxHeartbeats 200000
def y7:=an @cs33 <| an @so72 <| @zc33
theorem figure_sampleError_spec {v1 : Nat} {v2 : Int} (hr : figure_sampleError v1 = some (v2)) : Spec (lim Tryd.prog) 63 [.v (.float .f32 v1)] ⟨[.v (.int .i64 v2)],[]⟩:=by
  unfold figure_sampleError at hr
  have T:=an y7 <| @e_i.eq_1
  apply Spec.fn Tryd.func63 rfl
  focus (simp [Tryd.f63]<;>exact rfl)
  focus
    refine wa_ T (g:=?_)
    obtain ⟨v3,h1,hr⟩:=bs hr
    apply TO.cal (wn T) rfl goFn77 (figure_isWhole_spec h1) rfl rfl rfl
    repeat exact sd T
    refine wa_ T (g:=?_)
    apply TO.pop1 (wn T) (pop_not rfl)
    repeat exact sd T
    refine wa_ T (g:=?_)
    obtain ⟨v4,h2,hr⟩:=bs hr
    apply TO.cal (wn T) rfl goFn29 (figure_refuse_spec h2) rfl rfl rfl
    repeat exact sd T
    refine wa_ T (g:=?_)
    apply TO.pop1 (wn T) (pop_fcmp rfl rfl (by decide))
    repeat exact sd T
    refine wa_ T (g:=?_)
    rcases ifs hr with ⟨h3,hr⟩|⟨h3,hr⟩
    · have T:=an h3 T
      refine wa_ T (g:=?_)
      obtain ⟨v5,h4,hr⟩:=bs hr
      apply TO.cal (wn T) rfl goFn29 (figure_refuse_spec h4) rfl rfl rfl
      repeat exact sd T
      refine wa_ T (g:=?_)
      apply TO.bm e_i ([v4,v5] : List Int) (wn T) rfl (by simp only [zz,y7,e_i,Nat.reduceAdd,Nat.reduceMul,Nat.reduceLeDiff,Nat.reduceEqDiff,tslice,tparts,h3];exact rfl) rfl
      repeat exact sd T
      refine wa_ T (g:=?_)
      obtain ⟨v6,h5,hr⟩:=bs hr
      apply TO.cal (wn T) rfl goFn17 (figure_firstError_spec h5) rfl rfl rfl
      repeat exact sd T
      refine wa_ T (g:=?_)
      cases hr
      refine ⟨.inr rfl,_,(ry T),?_⟩
      exact wk_ T [] rfl .nil
    · have T:=an h3 T
      refine wa_ T (g:=?_)
      apply TO.pop1 (wn T) (pop_fcmp rfl rfl (by decide))
      repeat exact sd T
      refine wa_ T (g:=?_)
      obtain ⟨v7,h6,hr⟩:=bs hr
      apply TO.cal (wn T) rfl goFn29 (figure_refuse_spec h6) rfl rfl rfl
      repeat exact sd T
      refine wa_ T (g:=?_)
      apply TO.bm e_i ([v4,v7] : List Int) (wn T) rfl (by simp only [zz,y7,e_i,Nat.reduceAdd,Nat.reduceMul,Nat.reduceLeDiff,Nat.reduceEqDiff,tslice,tparts,h3];exact rfl) rfl
      repeat exact sd T
      refine wa_ T (g:=?_)
      obtain ⟨v8,h7,hr⟩:=bs hr
      apply TO.cal (wn T) rfl goFn17 (figure_firstError_spec h7) rfl rfl rfl
      repeat exact sd T
      refine wa_ T (g:=?_)
      cases hr
      refine ⟨.inr rfl,_,(ry T),?_⟩
      exact wk_ T [] rfl .nil
  rfl

end Go.Rex

namespace Go.Rex
open Go.Proofs
open Go Go.Rex Go.RowKit
set_option maxRecDepth 100000
set_option maxHeartbeats 1000000
def y8:=an @ag22 <| an @ag3 <| an @ag63 <| an @cs33 <| an @cs63 <| an @fd24_0 <| an @fd24_1 <| an @ok63 <| an @so22 <| an @so72 <| an @zc33 <| @wi64_0a1
theorem figure_CheckResponse_spec {v1 : Int} {v2 : (List Nat)} {v3 : Int} {v4 : Int} (hr : figure_CheckResponse v1 v2 = some (v3,v4)) : Spec (lim Tryd.prog) 46 [.agg [.v (.int .i64 v1),.list 1 (v2.map e_f)]] ⟨[.tuple [.v (.int .i64 v3),.v (.int .i64 v4)]],[]⟩:=by
  unfold figure_CheckResponse at hr
  have T:=an y8 <| an @e_f.eq_1 <| @e_i.eq_1
  apply Spec.fn Tryd.func46 rfl
  focus (simp [Tryd.f46]<;>exact rfl)
  focus
    refine wB T (g:=?_)
    obtain ⟨v5,h1,hr⟩:=bs hr
    apply TD.cal (wn T) rfl goFn62 (figure_rateError_spec h1) rfl rfl rfl
    repeat exact sd T
    refine wC T (g:=?_)
    obtain ⟨v6,h2,hr⟩:=bs hr
    apply TD.cal (wn T) rfl goFn29 (figure_refuse_spec h2) rfl rfl rfl
    repeat exact sd T
    refine wC T (g:=?_)
    obtain ⟨v7,h3,hr⟩:=bs hr
    apply TD.cal (wn T) rfl goFn29 (figure_refuse_spec h3) rfl rfl rfl
    repeat exact sd T
    refine wa_ T (g:=?_)
    apply TD.bm e_i ([v5,v6,v7] : List Int) (wn T) rfl (by simp only [zz,y8,e_f,e_i,Nat.reduceAdd,Nat.reduceMul,Nat.reduceLeDiff,Nat.reduceEqDiff,tslice,tparts];exact rfl) rfl
    repeat exact sd T
    refine wa_ T (g:=?_)
    obtain ⟨v8,h4,hr⟩:=bs hr
    apply TD.cal (wn T) rfl goFn17 (figure_firstError_spec h4) rfl rfl rfl
    repeat exact sd T
    refine wa_ T (g:=?_)
    rcases ifs hr with ⟨h5,hr⟩|⟨h5,hr⟩
    · have T:=an h5 T
      refine wa_ T (g:=?_)
      cases hr
      refine ⟨.inr rfl,_,(ry T),?_⟩
      exact wk_ T [] rfl .nil
    · have T:=an h5 T
      refine wC T (g:=?_)
      obtain ⟨v16,h14,hr⟩:=bs hr
      refine TX.loopE (step:=figure_CheckResponse_l1 v2) (x:=0) h14 (fun v9=>⟨.junk :: .junk :: .junk :: .junk :: .junk :: .junk :: .junk :: .junk :: .junk :: .junk :: .junk :: .junk :: .junk :: .junk :: .junk :: .junk :: .junk :: .junk :: .junk :: .junk :: .junk :: .junk :: .junk :: .junk :: .junk :: .junk :: .junk :: .list 1 (v2.map e_f) :: .v (.int .i64 (v2.length : Int)) :: .v (.int .i64 v9) :: .junk :: .junk :: .junk :: .junk :: .junk :: .junk :: .junk :: .junk :: .junk :: .junk :: .junk :: [],[]⟩) (fun e=>match e with|(.inl (v12,v13))=>(.ret,⟨.junk :: .junk :: .v (.int .i64 v12) :: .v (.int .i64 v13) :: .junk :: .junk :: .junk :: .junk :: .junk :: .junk :: .junk :: .junk :: .junk :: .junk :: .junk :: .junk :: .junk :: .junk :: .junk :: .junk :: .junk :: .junk :: .junk :: .junk :: .junk :: .junk :: .junk :: .junk :: .junk :: .junk :: .junk :: .junk :: .junk :: .junk :: .junk :: .junk :: .junk :: .junk :: .junk :: .junk :: .junk :: [],[]⟩)|(.inr _)=>(.exit 0,⟨.junk :: .junk :: .junk :: .junk :: .junk :: .junk :: .junk :: .junk :: .junk :: .junk :: .junk :: .junk :: .junk :: .junk :: .junk :: .junk :: .junk :: .junk :: .junk :: .junk :: .junk :: .junk :: .junk :: .junk :: .junk :: .junk :: .junk :: .junk :: .junk :: .junk :: .junk :: .junk :: .junk :: .junk :: .junk :: .junk :: .junk :: .junk :: .junk :: .junk :: .junk :: [],[]⟩)) ?_ ?_ ?_ ?_
      · rintro v9 v0 hr
        dsimp only [figure_CheckResponse_l1] at hr
        try dsimp only
        refine wa_ T (g:=?_)
        rcases ifs hr with ⟨h10,hr⟩|⟨h10,hr⟩
        · have T:=an h10 T
          refine wa_ T (g:=?_)
          obtain ⟨v14,h11,hr⟩:=bs hr
          have T:=an (gx e_f h11) T
          refine wA T (g:=?_)
          obtain ⟨v15,h12,hr⟩:=bs hr
          apply TO.cal (wn T) rfl goFn63 (figure_sampleError_spec h12) rfl rfl rfl
          repeat exact sd T
          refine wa_ T (g:=?_)
          rcases ifs hr with ⟨h13,hr⟩|⟨h13,hr⟩
          · have T:=an h13 T
            refine wa_ T (g:=?_)
            cases hr
            refine ⟨rfl,?_⟩
            exact wk_ T [] rfl .nil
          · have T:=an h13 T
            refine wa_ T (g:=?_)
            cases hr
            refine ⟨rfl,?_⟩
            exact wk_ T [] rfl .nil
        · have T:=an h10 T
          refine wa_ T (g:=?_)
          cases hr
          refine ⟨rfl,?_⟩
          exact wk_ T [] rfl .nil
      · intro e h;rcases e with _|e<;>cases h
      · try dsimp only
        rcases v16 with ⟨v17,v18⟩|_
        · try dsimp only at hr
          try dsimp only
          refine wa_ T (g:=?_)
          cases hr
          refine ⟨.inr rfl,_,(ry T),?_⟩
          exact wk_ T [] rfl .nil
        · try dsimp only at hr
          try dsimp only
          refine wa_ T (g:=?_)
          cases hr
          refine ⟨.inr rfl,_,(ry T),?_⟩
          exact wk_ T [] rfl .nil
      · try dsimp only
        exact wk_ T [] rfl .nil
  rfl

end Go.Rex

namespace Go.Rex
open Go.Proofs
open Go Go.Rex Go.RowKit
set_option maxRecDepth 100000
set_option maxHeartbeats 200000
def y9:=an @ag24 <| an @ag3 <| an @cs24 <| an @cs33 <| an @fd26_0 <| an @fd26_1 <| an @fd26_2 <| an @ok24 <| an @so72 <| @zc33
theorem figure_CheckAsk_spec {v1 : Int} {v2 : (List Nat)} {v3 : Int} {v4 : Int} {v5 : Int} {v6 : Int} (hr : figure_CheckAsk v1 v2 v3 v4 = some (v5,v6)) : Spec (lim Tryd.prog) 25 [.agg [.v (.int .i64 v1),.list 1 (v2.map e_f),.v (.int .i64 v3),.v (.int .i64 v4)]] ⟨[.tuple [.v (.int .i64 v5),.v (.int .i64 v6)]],[]⟩:=by
  unfold figure_CheckAsk at hr
  have T:=an y9 <| an @e_f.eq_1 <| @e_i.eq_1
  apply Spec.fn Tryd.func25 rfl
  focus (simp [Tryd.f25]<;>exact rfl)
  focus
    refine wB T (g:=?_)
    obtain ⟨⟨v7,v8⟩,h1,hr⟩:=bs hr
    try dsimp only at hr
    apply TO.cal (wn T) rfl goFn46 (figure_CheckResponse_spec h1) rfl rfl rfl
    repeat exact sd T
    refine wa_ T (g:=?_)
    rcases ifs hr with ⟨h2,hr⟩|⟨h2,hr⟩
    · have T:=an h2 T
      refine wa_ T (g:=?_)
      cases hr
      refine ⟨.inr rfl,_,(ry T),?_⟩
      exact wk_ T [] rfl .nil
    · have T:=an h2 T
      refine wA T (g:=?_)
      obtain ⟨v9,h3,hr⟩:=bs hr
      apply TD.cal (wn T) rfl goFn35 (figure_within_spec h3) rfl rfl rfl
      repeat exact sd T
      refine wA T (g:=?_)
      obtain ⟨v10,h4,hr⟩:=bs hr
      apply TD.cal (wn T) rfl goFn35 (figure_within_spec h4) rfl rfl rfl
      repeat exact sd T
      refine wa_ T (g:=?_)
      apply TD.bm e_i ([v9,v10] : List Int) (wn T) rfl (by simp only [zz,y9,e_f,e_i,Nat.reduceAdd,Nat.reduceMul,Nat.reduceLeDiff,Nat.reduceEqDiff,tslice,tparts,h2];exact rfl) rfl
      repeat exact sd T
      refine wa_ T (g:=?_)
      obtain ⟨v11,h5,hr⟩:=bs hr
      apply TD.cal (wn T) rfl goFn17 (figure_firstError_spec h5) rfl rfl rfl
      repeat exact sd T
      refine wa_ T (g:=?_)
      cases hr
      refine ⟨.inr rfl,_,(ry T),?_⟩
      exact wk_ T [] rfl .nil
  rfl

end Go.Rex

namespace Go.Rex
open Go.Proofs
open Go Go.Rex Go.RowKit
set_option maxRecDepth 100000
set_option maxHeartbeats 200000
def y10:=an @ag26 <| an @ag50 <| an @cs26 <| an @cs50 <| an @ok26 <| an @ok50 <| an @st50 <| @zc50
theorem figure_hear_spec {v1 : Int} {v2 : (List Nat)} {v3 : Int} {v4 : Int} {v5 : Int} {v6 : (List Nat)} {v7 : Int} {v8 : Int} {v9 : Int} (hr : figure_hear v1 v2 v3 v4 = some (v5,v6,v7,v8,v9)) : Spec (lim Tryd.prog) 14 [.agg [.v (.int .i64 v1),.list 1 (v2.map e_f),.v (.int .i64 v3),.v (.int .i64 v4)]] ⟨[.tuple [.agg [.v (.int .i64 v5),.list 1 (v6.map e_f),.v (.int .i64 v7),.v (.int .i64 v8)],.v (.int .i64 v9)]],[]⟩:=by
  unfold figure_hear at hr
  have T:=an y10 <| @e_f.eq_1
  apply Spec.fn Tryd.func14 rfl
  focus (simp [Tryd.f14]<;>exact rfl)
  focus
    refine wB T (g:=?_)
    obtain ⟨⟨v10,v11⟩,h1,hr⟩:=bs hr
    try dsimp only at hr
    apply TO.cal (wn T) rfl goFn25 (figure_CheckAsk_spec h1) rfl rfl rfl
    repeat exact sd T
    refine wA T (g:=?_)
    cases hr
    refine ⟨.inr rfl,_,(ry T),?_⟩
    exact wr [] rfl .nil
  rfl

end Go.Rex

namespace Go.Rex
open Go.Proofs
open Go Go.Rex Go.RowKit
set_option maxRecDepth 100000
set_option maxHeartbeats 200000
def y11:=an @ag22 <| an @fd24_1 <| an @fd26_0 <| an @fd50_0 <| @so22
theorem figure_heard_count_spec {v1 : Int} {v2 : (List Nat)} {v3 : Int} {v4 : Int} {v5 : Int} (hr : figure_heard_count v1 v2 v3 v4 = some (v5)) : Spec (lim Tryd.prog) 16 [.agg [.v (.int .i64 v1),.list 1 (v2.map e_f),.v (.int .i64 v3),.v (.int .i64 v4)]] ⟨[.v (.int .i64 v5)],[]⟩:=by
  unfold figure_heard_count at hr
  have T:=an y11 <| @e_f.eq_1
  apply Spec.fn Tryd.func16 rfl
  focus (simp [Tryd.f16]<;>exact rfl)
  focus
    refine wD T (g:=?_)
    cases hr
    refine ⟨.inr rfl,_,(ry T),?_⟩
    exact wr [] rfl .nil
  rfl

end Go.Rex

namespace Go.Rex
open Go.Proofs
open Go Go.Rex Go.RowKit
set_option maxRecDepth 100000
set_option maxHeartbeats 200000
def y12:=an @ag57 <| an @cs57 <| an @ok57 <| an @st37 <| an @st57 <| an @zc37 <| @zc57
theorem figure_between_spec {v1 : Int} {v2 : Int} {v3 : Int} {v4 : Int} (hr : figure_between v1 v2 = some (v3,v4)) : Spec (lim Tryd.prog) 38 [.v (.int .i64 v1),.v (.int .i64 v2)] ⟨[.agg [.v (.int .i64 v3),.v (.int .i64 v4)]],[]⟩:=by
  unfold figure_between at hr
  have T:=y12
  apply Spec.fn Tryd.func38 rfl
  focus (simp [Tryd.f38]<;>exact rfl)
  focus
    refine wa_ T (g:=?_)
    cases hr
    refine ⟨.inr rfl,_,(ry T),?_⟩
    exact wr [] rfl .nil
  rfl

end Go.Rex

namespace Go.Rex
open Go.Proofs
open Go Go.Rex Go.RowKit
set_option maxRecDepth 100000
set_option maxHeartbeats 200000
def y13:=an @ag3 <| an @ag57 <| an @cs57 <| an @fd26_2 <| an @fd50_0 <| an @ok57 <| @zc57
theorem figure_heard_behind_spec {v1 : Int} {v2 : (List Nat)} {v3 : Int} {v4 : Int} {v5 : Int} {v6 : Int} (hr : figure_heard_behind v1 v2 v3 v4 = some (v5,v6)) : Spec (lim Tryd.prog) 26 [.agg [.v (.int .i64 v1),.list 1 (v2.map e_f),.v (.int .i64 v3),.v (.int .i64 v4)]] ⟨[.agg [.v (.int .i64 v5),.v (.int .i64 v6)]],[]⟩:=by
  unfold figure_heard_behind at hr
  have T:=an y13 <| @e_f.eq_1
  apply Spec.fn Tryd.func26 rfl
  focus (simp [Tryd.f26]<;>exact rfl)
  focus
    refine wB T (g:=?_)
    obtain ⟨⟨v7,v8⟩,h1,hr⟩:=bs hr
    try dsimp only at hr
    apply TO.cal (wn T) rfl goFn38 (figure_between_spec h1) rfl rfl rfl
    repeat exact sd T
    refine wa_ T (g:=?_)
    cases hr
    refine ⟨.inr rfl,_,(ry T),?_⟩
    exact wr [] rfl .nil
  rfl

end Go.Rex

namespace Go.Rex
open Go.Proofs
open Go Go.Rex Go.RowKit
set_option maxRecDepth 100000
set_option maxHeartbeats 200000
def y14:=an @ag22 <| an @ag3 <| an @ag57 <| an @ag63 <| an @cs57 <| an @cs63 <| an @fd24_1 <| an @fd26_0 <| an @fd26_1 <| an @fd50_0 <| an @ok57 <| an @ok63 <| an @so22 <| an @un3 <| an @un63 <| @zc57
theorem figure_heard_square_spec {v1 : Int} {v2 : (List Nat)} {v3 : Int} {v4 : Int} {v5 : Int} {v6 : Int} {v7 : Int} (hr : figure_heard_square v1 v2 v3 v4 v5 = some (v6,v7)) : Spec (lim Tryd.prog) 28 [.agg [.v (.int .i64 v1),.list 1 (v2.map e_f),.v (.int .i64 v3),.v (.int .i64 v4)],.v (.int .i64 v5)] ⟨[.agg [.v (.int .i64 v6),.v (.int .i64 v7)]],[]⟩:=by
  unfold figure_heard_square at hr
  have T:=an y14 <| @e_f.eq_1
  apply Spec.fn Tryd.func28 rfl
  focus (simp [Tryd.f28]<;>exact rfl)
  focus
    refine wB T (g:=?_)
    obtain ⟨v8,h1,hr⟩:=bs hr
    have T:=an (gx e_f h1) T
    refine wA T (g:=?_)
    obtain ⟨v9,h2,hr⟩:=bs hr
    apply TO.pop1 (wn T) (cvt_float_int un63 un3 rfl h2)
    repeat exact sd T
    refine wa_ T (g:=?_)
    apply TO.pop1 (wn T) (pop_neg rfl)
    repeat exact sd T
    refine wa_ T (g:=?_)
    apply TO.pop1 (wn T) (pop_max rfl rfl)
    repeat exact sd T
    refine wA T (g:=?_)
    apply TD.pop1 (wn T) (pop_max rfl rfl)
    repeat exact sd T
    refine wA T (g:=?_)
    obtain ⟨⟨v10,v11⟩,h3,hr⟩:=bs hr
    try dsimp only at hr
    apply TO.cal (wn T) rfl goFn38 (figure_between_spec h3) rfl rfl rfl
    repeat exact sd T
    refine wa_ T (g:=?_)
    cases hr
    refine ⟨.inr rfl,_,(ry T),?_⟩
    exact wr [] rfl .nil
  rfl

end Go.Rex

namespace Go.Rex
open Go.Proofs
open Go Go.Rex Go.RowKit
set_option maxRecDepth 100000
set_option maxHeartbeats 200000
def y15:=an @ag3 <| an @ag57 <| an @cs57 <| an @fd37_0 <| an @fd37_1 <| an @fd57_0 <| an @ok57 <| @zc57
theorem figure_ends_plus_spec {v1 : Int} {v2 : Int} {v3 : Int} {v4 : Int} {v5 : Int} {v6 : Int} (hr : figure_ends_plus v1 v2 v3 v4 = some (v5,v6)) : Spec (lim Tryd.prog) 27 [.agg [.v (.int .i64 v1),.v (.int .i64 v2)],.agg [.v (.int .i64 v3),.v (.int .i64 v4)]] ⟨[.agg [.v (.int .i64 v5),.v (.int .i64 v6)]],[]⟩:=by
  unfold figure_ends_plus at hr
  have T:=y15
  apply Spec.fn Tryd.func27 rfl
  focus (simp [Tryd.f27]<;>exact rfl)
  focus
    refine wB T (g:=?_)
    obtain ⟨⟨v7,v8⟩,h1,hr⟩:=bs hr
    try dsimp only at hr
    apply TO.cal (wn T) rfl goFn38 (figure_between_spec h1) rfl rfl rfl
    repeat exact sd T
    refine wa_ T (g:=?_)
    cases hr
    refine ⟨.inr rfl,_,(ry T),?_⟩
    exact wr [] rfl .nil
  rfl

end Go.Rex

namespace Go.Rex
open Go.Proofs
open Go Go.Rex Go.RowKit
set_option maxRecDepth 100000
set_option maxHeartbeats 1000000
def y16:=an @ag50 <| an @ag57 <| an @by57 <| an @cs50 <| an @cs57 <| an @ok50 <| an @ok57 <| an @so53 <| @zc57
theorem figure_heard_sums_spec {v1 : Int} {v2 : (List Nat)} {v3 : Int} {v4 : Int} {v5 : (List (Int × Int))} (hr : figure_heard_sums v1 v2 v3 v4 = some (v5)) : Spec (lim Tryd.prog) 15 [.agg [.v (.int .i64 v1),.list 1 (v2.map e_f),.v (.int .i64 v3),.v (.int .i64 v4)]] ⟨[.lsl 0 0 v5.length],[.rows 2 (v5.map e_ii)]⟩:=by
  unfold figure_heard_sums at hr
  have T:=an y16 <| an @e_f.eq_1 <| @e_ii.eq_1
  apply Spec.fn Tryd.func15 rfl
  focus (simp [Tryd.f15]<;>exact rfl)
  focus
    refine wB T (g:=?_)
    obtain ⟨v6,h1,hr⟩:=bs hr
    apply TO.cal (wn T) rfl goFn16 (figure_heard_count_spec h1) rfl rfl rfl
    repeat exact sd T
    refine wa_ T (g:=?_)
    obtain ⟨v7,h2,hr⟩:=bs hr
    apply TO.mk e_ii h2 (wn T) rfl rfl so53 zc57 by57 rfl rfl rfl
    repeat exact sd T
    refine wA T (g:=?_)
    obtain ⟨v8,h3,hr⟩:=bs hr
    apply TD.cal (wn T) rfl goFn16 (figure_heard_count_spec h3) rfl rfl rfl
    repeat exact sd T
    refine wA T (g:=?_)
    obtain ⟨⟨v9,v10⟩,h4,hr⟩:=bs hr
    try dsimp only at hr
    apply TD.cal (wn T) rfl goFn26 (figure_heard_behind_spec h4) rfl rfl rfl
    repeat exact sd T
    refine wa_ T (g:=?_)
    obtain ⟨⟨v11,v12⟩,h5,hr⟩:=bs hr
    try dsimp only at hr
    have h5m:=tidx_map (f:=e_ii) h5
    have h5l:=getI_lt h5
    try simp only [List.length_set] at h5l
    have h5a:=getI_at h5
    have T:=an h5m T
    have T:=an h5l T
    have T:=an h5a T
    refine wa_ T (g:=?_)
    apply TD.sr e_ii v7 (v11,v12) (v9,v10) h5a (wn T) rfl rfl rfl rfl rfl ok57 (by rw [cs57];rfl) rfl rfl rfl rfl rfl
    repeat exact sd T
    refine wA T (g:=?_)
    obtain ⟨v13,h6,hr⟩:=bs hr
    apply TO.cal (wn T) rfl goFn16 (figure_heard_count_spec h6) rfl rfl rfl
    repeat exact sd T
    refine wa_ T (g:=?_)
    obtain ⟨v33,h17,hr⟩:=bs hr
    refine TX.loopE (step:=figure_heard_sums_l1 v1 v2 v3 v4) (x:=((v7.set v8.toNat (v9,v10)),(IntKind.i64.wrap (v13 - 1)))) h17 (fun (v14,v15)=>⟨.junk :: .fptr true [.v (.int .i64 v1),.list 1 (v2.map e_f),.v (.int .i64 v3),.v (.int .i64 v4)] 0 :: .junk :: .lsl 0 0 v14.length :: .v (.int .i64 v15) :: .junk :: .junk :: .junk :: .junk :: .junk :: .junk :: .junk :: .junk :: .junk :: .junk :: .junk :: .junk :: .junk :: .junk :: .junk :: .junk :: .junk :: .junk :: .junk :: .junk :: .junk :: .junk :: .junk :: .junk :: .junk :: .junk :: .junk :: .junk :: .junk :: .junk :: [],[.rows 2 (v14.map e_ii)]⟩) (fun v24=>(.exit 0,⟨.junk :: .junk :: .junk :: .lsl 0 0 v24.length :: .junk :: .junk :: .junk :: .junk :: .junk :: .junk :: .junk :: .junk :: .junk :: .junk :: .junk :: .junk :: .junk :: .junk :: .junk :: .junk :: .junk :: .junk :: .junk :: .junk :: .junk :: .junk :: .junk :: .junk :: .junk :: .junk :: .junk :: .junk :: .junk :: .junk :: .junk :: [],[.rows 2 (v24.map e_ii)]⟩)) ?_ ?_ ?_ ?_
    · rintro ⟨v14,v15⟩ v0 hr
      dsimp only [figure_heard_sums_l1] at hr
      try dsimp only
      refine wa_ T (g:=?_)
      rcases ifs hr with ⟨h12,hr⟩|⟨h12,hr⟩
      · have T:=an h12 T
        refine wa_ T (g:=?_)
        obtain ⟨⟨v25,v26⟩,h13,hr⟩:=bs hr
        try dsimp only at hr
        have h13m:=tidx_map (f:=e_ii) h13
        have h13l:=getI_lt h13
        try simp only [List.length_set] at h13l
        have h13a:=getI_at h13
        have T:=an h13m T
        have T:=an h13l T
        have T:=an h13a T
        refine wA T (g:=?_)
        obtain ⟨⟨v27,v28⟩,h14,hr⟩:=bs hr
        try dsimp only at hr
        apply TD.cal (wn T) rfl goFn28 (figure_heard_square_spec h14) rfl rfl rfl
        repeat exact sd T
        refine wa_ T (g:=?_)
        obtain ⟨⟨v29,v30⟩,h15,hr⟩:=bs hr
        try dsimp only at hr
        apply TD.cal (wn T) rfl goFn27 (figure_ends_plus_spec h15) rfl rfl rfl
        repeat exact sd T
        refine wa_ T (g:=?_)
        obtain ⟨⟨v31,v32⟩,h16,hr⟩:=bs hr
        try dsimp only at hr
        have h16m:=tidx_map (f:=e_ii) h16
        have h16l:=getI_lt h16
        try simp only [List.length_set] at h16l
        have h16a:=getI_at h16
        have T:=an h16m T
        have T:=an h16l T
        have T:=an h16a T
        refine wa_ T (g:=?_)
        apply TD.sr e_ii v14 (v31,v32) (v29,v30) h16a (wn T) rfl rfl rfl rfl rfl ok57 (by rw [cs57];rfl) rfl rfl rfl rfl rfl
        repeat exact sd T
        refine wa_ T (g:=?_)
        cases hr
        refine ⟨rfl,?_⟩
        exact wk_ T [some 0] rfl (.rows .nil rfl rfl)
      · have T:=an h12 T
        refine wa_ T (g:=?_)
        cases hr
        refine ⟨rfl,?_⟩
        exact wk_ T [some 0] rfl (.rows .nil rfl rfl)
    · intro e h;cases h
    · try dsimp only
      refine wa_ T (g:=?_)
      cases hr
      refine ⟨.inr rfl,_,(ry T),?_⟩
      exact wr [some 0] rfl (.rows .nil rfl rfl)
    · try dsimp only
      exact wr [some 0] rfl (.rows .nil rfl rfl)
  rfl

end Go.Rex

namespace Go.Rex
open Go.Proofs
open Go Go.Rex Go.RowKit
set_option maxRecDepth 100000
set_option maxHeartbeats 200000
def y17:=an @ag26 <| an @ag37 <| an @ag50 <| an @ag57 <| an @by37 <| an @cs26 <| an @cs37 <| an @cs50 <| an @cs57 <| an @fd57_0 <| an @ni32 <| an @ok26 <| an @ok37 <| an @ok50 <| an @ok57 <| an @so32 <| an @so53 <| an @zc37 <| an @zc50 <| an @zc57 <| @wi64_0a1
theorem figure_SumsWithin_spec {v1 : Int} {v2 : (List Nat)} {v3 : Int} {v4 : Int} {v5 : (List (Int × Int))} {v6 : Int} (hr : figure_SumsWithin v1 v2 v3 v4 = some (v5,v6)) : Spec (lim Tryd.prog) 8 [.agg [.v (.int .i64 v1),.list 1 (v2.map e_f),.v (.int .i64 v3),.v (.int .i64 v4)]] ⟨[.tuple [.lsl 0 0 v5.length,.v (.int .i64 v6)]],[.rows 2 (v5.map e_ii)]⟩:=by
  unfold figure_SumsWithin at hr
  have T:=an y17 <| an @e_f.eq_1 <| @e_ii.eq_1
  apply Spec.fn Tryd.func8 rfl
  focus (simp [Tryd.f8]<;>exact rfl)
  focus
    refine wB T (g:=?_)
    obtain ⟨⟨v7,v8,v9,v10,v11⟩,h1,hr⟩:=bs hr
    try dsimp only at hr
    apply TO.cal (wn T) rfl goFn14 (figure_hear_spec h1) rfl rfl rfl
    repeat exact sd T
    refine wa_ T (g:=?_)
    rcases ifs hr with ⟨h2,hr⟩|⟨h2,hr⟩
    · have T:=an h2 T
      refine wa_ T (g:=?_)
      cases hr
      refine ⟨.inr rfl,_,(ry T),?_⟩
      exact wk_ T [none] rfl (.virt .nil)
    · have T:=an h2 T
      refine wA T (g:=?_)
      obtain ⟨v12,h3,hr⟩:=bs hr
      apply TD.cal (wn T) rfl goFn15 (figure_heard_sums_spec h3) rfl rfl rfl
      repeat exact sd T
      refine wA T (g:=?_)
      obtain ⟨v13,h4,hr⟩:=bs hr
      apply TD.cal (wn T) rfl goFn16 (figure_heard_count_spec h4) rfl rfl rfl
      repeat exact sd T
      refine wa_ T (g:=?_)
      obtain ⟨v14,h5,hr⟩:=bs hr
      apply TD.ct e_ii h5 (wn T) rfl rfl rfl so53 ok57 cs57
      repeat exact sd T
      refine wc_ T (g:=?_)
      apply TX.vt (α:=(Int × Int)) e_ii 6 2 rfl
      repeat exact sd T
      with_reducible apply TX.here
      refine wa_ T (g:=?_)
      apply TX.frz 1 rfl rfl
      (repeat (focus (show _ = _;first|exact k1 rfl|exact k2 rfl|(simp only [zz,y17,e_f,e_ii,Nat.reduceAdd,Nat.reduceMul,Nat.reduceLeDiff,Nat.reduceEqDiff,shift,kill,killB,frz,frzB,view,tml,tmlc,List.length_set,take_map_part,take_map_part2,h2]<;>exact rfl)|exact rfl)))
      with_reducible apply TX.here
      refine wa_ T (g:=?_)
      obtain ⟨v24,h12,hr⟩:=bs hr
      refine TX.loopE (step:=figure_SumsWithin_l1 v12 v14) (x:=(([] : List (Int × Int)),0)) h12 (fun (v15,v16)=>⟨.junk :: .junk :: .junk :: .junk :: .junk :: .junk :: .lsl 0 0 v15.length :: .junk :: .junk :: .junk :: .junk :: .junk :: .junk :: .junk :: .junk :: .junk :: .junk :: .junk :: .junk :: .junk :: .junk :: .list 2 ((v12.take v14).map e_ii) :: .v (.int .i64 (v14 : Int)) :: .v (.int .i64 v16) :: .junk :: .junk :: .junk :: .junk :: .junk :: .junk :: .junk :: .junk :: .junk :: .junk :: [],[.rows 2 (v15.map e_ii)]⟩) (fun v20=>(.exit 0,⟨.junk :: .junk :: .junk :: .junk :: .junk :: .junk :: .lsl 0 0 v20.length :: .junk :: .junk :: .junk :: .junk :: .junk :: .junk :: .junk :: .junk :: .junk :: .junk :: .junk :: .junk :: .junk :: .junk :: .junk :: .junk :: .junk :: .junk :: .junk :: .junk :: .junk :: .junk :: .junk :: .junk :: .junk :: .junk :: .junk :: [],[.rows 2 (v20.map e_ii)]⟩)) ?_ ?_ ?_ ?_
      · rintro ⟨v15,v16⟩ v0 hr
        dsimp only [figure_SumsWithin_l1] at hr
        try dsimp only
        refine wa_ T (g:=?_)
        rcases ifs hr with ⟨h9,hr⟩|⟨h9,hr⟩
        · have T:=an h9 T
          refine wa_ T (g:=?_)
          obtain ⟨⟨v21,v22⟩,h10,hr⟩:=bs hr
          try dsimp only at hr
          have h10m:=tidx_map (f:=e_ii) h10
          have h10l:=getI_lt h10
          try simp only [List.length_set] at h10l
          have h10a:=getI_at h10
          have T:=an h10m T
          have T:=an h10l T
          have T:=an h10a T
          refine wA T (g:=?_)
          apply TO.bm e_ii ([(v21,v22)] : List (Int × Int)) (wn T) rfl (by simp only [zz,y17,e_f,e_ii,Nat.reduceAdd,Nat.reduceMul,Nat.reduceLeDiff,Nat.reduceEqDiff,tslice,tparts,h2,h9,h10m,h10l,h10a];exact rfl) rfl
          repeat exact sd T
          refine wa_ T (g:=?_)
          obtain ⟨v23,h11,hr⟩:=bs hr
          apply TO.ap (f:=e_ii) (xs:=v15) (ys:=([(v21,v22)] : List (Int × Int))) (wn T) rfl rfl (by first|rfl|simp only [List.length_set]) rfl rfl so32 ni32 zc37 rfl (by rw [by37];exact h11) (fun _=>⟨rfl,rfl,rfl⟩)
          repeat exact sd T
          refine wa_ T (g:=?_)
          cases hr
          refine ⟨rfl,?_⟩
          exact wk_ T [some 0] rfl (.rows .nil rfl rfl)
        · have T:=an h9 T
          refine wa_ T (g:=?_)
          cases hr
          refine ⟨rfl,?_⟩
          exact wk_ T [some 0] rfl (.rows .nil rfl rfl)
      · intro e h;cases h
      · try dsimp only
        refine wa_ T (g:=?_)
        cases hr
        refine ⟨.inr rfl,_,(ry T),?_⟩
        exact wk_ T [some 0] rfl (.rows .nil rfl rfl)
      · try dsimp only
        exact wk_ T [some 2] rfl (.rows .nil rfl rfl)
  rfl

end Go.Rex

namespace Go.Rex
open Go.Proofs
open Go Go.Rex Go.RowKit
set_option maxRecDepth 100000
set_option maxHeartbeats 200000
theorem figure_kindError_spec {v1 : Int} {v2 : Int} (hr : figure_kindError v1 = some (v2)) : Spec (lim Tryd.prog) 18 [.v (.int .i64 v1)] ⟨[.v (.int .i64 v2)],[]⟩:=by
  unfold figure_kindError at hr
  have T:=trivial
  apply Spec.fn Tryd.func18 rfl
  focus (simp [Tryd.f18]<;>exact rfl)
  focus
    refine wa_ T (g:=?_)
    rcases ifs hr with ⟨h1,hr⟩|⟨h1,hr⟩
    · have T:=an h1 T
      refine wa_ T (g:=?_)
      obtain ⟨v3,h2,hr⟩:=bs hr
      apply TO.cal (wn T) rfl goFn29 (figure_refuse_spec h2) rfl rfl rfl
      repeat exact sd T
      refine wa_ T (g:=?_)
      cases hr
      refine ⟨.inr rfl,_,(ry T),?_⟩
      exact wk_ T [] rfl .nil
    · have T:=an h1 T
      refine wa_ T (g:=?_)
      obtain ⟨v4,h3,hr⟩:=bs hr
      apply TO.cal (wn T) rfl goFn29 (figure_refuse_spec h3) rfl rfl rfl
      repeat exact sd T
      refine wa_ T (g:=?_)
      cases hr
      refine ⟨.inr rfl,_,(ry T),?_⟩
      exact wk_ T [] rfl .nil
  rfl

end Go.Rex

namespace Go.Rex
open Go.Proofs
open Go Go.Rex Go.RowKit
set_option maxRecDepth 100000
set_option maxHeartbeats 200000
def y18:=an @ag50 <| an @ag57 <| an @cs50 <| an @cs57 <| an @ok50 <| an @ok57 <| an @so53 <| @zc57
theorem figure_heard_all_spec {v1 : Int} {v2 : (List Nat)} {v3 : Int} {v4 : Int} {v5 : Int} {v6 : Int} (hr : figure_heard_all v1 v2 v3 v4 = some (v5,v6)) : Spec (lim Tryd.prog) 30 [.agg [.v (.int .i64 v1),.list 1 (v2.map e_f),.v (.int .i64 v3),.v (.int .i64 v4)]] ⟨[.agg [.v (.int .i64 v5),.v (.int .i64 v6)]],[]⟩:=by
  unfold figure_heard_all at hr
  have T:=an y18 <| an @e_f.eq_1 <| @e_ii.eq_1
  apply Spec.fn Tryd.func30 rfl
  focus (simp [Tryd.f30]<;>exact rfl)
  focus
    refine wB T (g:=?_)
    obtain ⟨v7,h1,hr⟩:=bs hr
    apply TO.cal (wn T) rfl goFn15 (figure_heard_sums_spec h1) rfl rfl rfl
    repeat exact sd T
    refine wa_ T (g:=?_)
    obtain ⟨⟨v8,v9⟩,h2,hr⟩:=bs hr
    try dsimp only at hr
    have T:=an (gx e_ii h2) T
    refine wA T (g:=?_)
    cases hr
    refine ⟨.inr rfl,_,(ry T),?_⟩
    exact wr [] rfl .nil
  rfl

end Go.Rex

namespace Go.Rex
open Go.Proofs
open Go Go.Rex Go.RowKit
set_option maxRecDepth 100000
set_option maxHeartbeats 200000
def y19:=an @wi64_0a1 <| @wi64_1m10
theorem figure_tenTo_spec {v1 : Int} {v2 : Int} (hr : figure_tenTo v1 = some (v2)) : Spec (lim Tryd.prog) 65 [.v (.int .i64 v1)] ⟨[.v (.int .i64 v2)],[]⟩:=by
  unfold figure_tenTo at hr
  have T:=y19
  apply Spec.fn Tryd.func65 rfl
  focus (simp [Tryd.f65]<;>exact rfl)
  focus
    refine wa_ T (g:=?_)
    obtain ⟨v6,h3,hr⟩:=bs hr
    refine TX.loopE (step:=figure_tenTo_l1 v1) (x:=(1,0)) h3 (fun (v3,v4)=>⟨[.junk,.junk,.junk,.v (.int .i64 v3),.v (.int .i64 v1),.v (.int .i64 v4),.junk,.junk,.junk,.junk,.junk],[]⟩) (fun v5=>(.exit 0,⟨[.junk,.junk,.junk,.v (.int .i64 v5),.junk,.junk,.junk,.junk,.junk,.junk,.junk],[]⟩)) ?_ ?_ ?_ ?_
    · rintro ⟨v3,v4⟩ v0 hr
      dsimp only [figure_tenTo_l1] at hr
      try dsimp only
      refine wa_ T (g:=?_)
      rcases ifs hr with ⟨h2,hr⟩|⟨h2,hr⟩
      · have T:=an h2 T
        refine wa_ T (g:=?_)
        cases hr
        refine ⟨rfl,?_⟩
        exact wk_ T [] rfl .nil
      · have T:=an h2 T
        refine wa_ T (g:=?_)
        cases hr
        refine ⟨rfl,?_⟩
        exact wk_ T [] rfl .nil
    · intro e h;cases h
    · try dsimp only
      refine wa_ T (g:=?_)
      cases hr
      refine ⟨.inr rfl,_,(ry T),?_⟩
      exact wr [] rfl .nil
    · try dsimp only
      exact wr [] rfl .nil
  rfl

end Go.Rex

namespace Go.Rex
open Go.Proofs
open Go Go.Rex Go.RowKit
set_option maxRecDepth 100000
set_option maxHeartbeats 200000
theorem math_bits_Mul64_spec {v1 : Int} {v2 : Int} {v3 : Int} {v4 : Int} (hr : math_bits_Mul64 v1 v2 = some (v3,v4)) : Spec (lim Tryd.prog) 78 [.v (.int .u64 v1),.v (.int .u64 v2)] ⟨[.tuple [.v (.int .u64 v3),.v (.int .u64 v4)]],[]⟩:=by
  unfold math_bits_Mul64 at hr
  have T:=trivial
  apply Spec.fn Tryd.func78 rfl
  focus (simp [Tryd.f78]<;>exact rfl)
  focus
    refine wa_ T (g:=?_)
    apply TO.pop1 (wn T) (pop_bits rfl rfl (by decide))
    repeat exact sd T
    refine wa_ T (g:=?_)
    obtain ⟨v5,h1,hr⟩:=bs hr
    apply TO.pop1 (wn T) (pop_shift rfl rfl (by decide) (h1))
    repeat exact sd T
    refine wa_ T (g:=?_)
    apply TO.pop1 (wn T) (pop_bits rfl rfl (by decide))
    repeat exact sd T
    refine wa_ T (g:=?_)
    obtain ⟨v6,h2,hr⟩:=bs hr
    apply TO.pop1 (wn T) (pop_shift rfl rfl (by decide) (h2))
    repeat exact sd T
    refine wa_ T (g:=?_)
    obtain ⟨v7,h3,hr⟩:=bs hr
    apply TO.pop1 (wn T) (pop_shift rfl rfl (by decide) (h3))
    repeat exact sd T
    refine wa_ T (g:=?_)
    apply TO.pop1 (wn T) (pop_bits rfl rfl (by decide))
    repeat exact sd T
    refine wa_ T (g:=?_)
    obtain ⟨v8,h4,hr⟩:=bs hr
    apply TO.pop1 (wn T) (pop_shift rfl rfl (by decide) (h4))
    repeat exact sd T
    refine wa_ T (g:=?_)
    obtain ⟨v9,h5,hr⟩:=bs hr
    apply TO.pop1 (wn T) (pop_shift rfl rfl (by decide) (h5))
    repeat exact sd T
    refine wa_ T (g:=?_)
    cases hr
    refine ⟨.inr rfl,_,(ry T),?_⟩
    exact wr [] rfl .nil
  rfl

end Go.Rex

namespace Go.Rex
open Go.Proofs
open Go Go.Rex Go.RowKit
set_option maxRecDepth 100000
set_option maxHeartbeats 200000
def y20:=an @ag106 <| an @cs106 <| an @ok106 <| an @st106 <| an @un104 <| an @un3 <| @zc106
theorem figure_product_spec {v1 : Int} {v2 : Int} {v3 : Int} {v4 : Int} (hr : figure_product v1 v2 = some (v3,v4)) : Spec (lim Tryd.prog) 64 [.v (.int .i64 v1),.v (.int .i64 v2)] ⟨[.agg [.v (.int .u64 v3),.v (.int .u64 v4)]],[]⟩:=by
  unfold figure_product at hr
  have T:=y20
  apply Spec.fn Tryd.func64 rfl
  focus (simp [Tryd.f64]<;>exact rfl)
  focus
    refine wa_ T (g:=?_)
    apply TO.pop1 (wn T) (cvt_int_int un3 un104 rfl)
    repeat exact sd T
    refine wa_ T (g:=?_)
    apply TO.pop1 (wn T) (cvt_int_int un3 un104 rfl)
    repeat exact sd T
    refine wa_ T (g:=?_)
    obtain ⟨⟨v5,v6⟩,h1,hr⟩:=bs hr
    try dsimp only at hr
    apply TO.cal (wn T) rfl goFn78 (math_bits_Mul64_spec h1) rfl rfl rfl
    repeat exact sd T
    refine wa_ T (g:=?_)
    cases hr
    refine ⟨.inr rfl,_,(ry T),?_⟩
    exact wr [] rfl .nil
  rfl

end Go.Rex

namespace Go.Rex
open Go.Proofs
open Go Go.Rex Go.RowKit
set_option maxRecDepth 100000
set_option maxHeartbeats 200000
def y21:=an @ag104 <| an @fd106_0 <| @fd106_1
theorem figure_wide_isAtMost_spec {v1 : Int} {v2 : Int} {v3 : Int} {v4 : Int} {v5 : Bool} (hr : figure_wide_isAtMost v1 v2 v3 v4 = some (v5)) : Spec (lim Tryd.prog) 66 [.agg [.v (.int .u64 v1),.v (.int .u64 v2)],.agg [.v (.int .u64 v3),.v (.int .u64 v4)]] ⟨[.v (.bool v5)],[]⟩:=by
  unfold figure_wide_isAtMost at hr
  have T:=y21
  apply Spec.fn Tryd.func66 rfl
  focus (simp [Tryd.f66]<;>exact rfl)
  focus
    refine wB T (g:=?_)
    rcases ifs hr with ⟨h1,hr⟩|⟨h1,hr⟩
    · have T:=an h1 T
      refine wa_ T (g:=?_)
      cases hr
      refine ⟨.inr rfl,_,(ry T),?_⟩
      exact wk_ T [] rfl .nil
    · have T:=an h1 T
      refine wA T (g:=?_)
      rcases ifs hr with ⟨h2,hr⟩|⟨h2,hr⟩
      · have T:=an h2 T
        refine wA T (g:=?_)
        cases hr
        refine ⟨.inr rfl,_,(ry T),?_⟩
        exact wk_ T [] rfl .nil
      · have T:=an h2 T
        refine wa_ T (g:=?_)
        cases hr
        refine ⟨.inr rfl,_,(ry T),?_⟩
        exact wk_ T [] rfl .nil
  rfl

end Go.Rex

namespace Go.Rex
open Go.Proofs
open Go Go.Rex Go.RowKit
set_option maxRecDepth 100000
set_option maxHeartbeats 200000
theorem figure_isPassed_spec {v1 : Int} {v2 : Int} {v3 : Int} {v4 : Bool} (hr : figure_isPassed v1 v2 v3 = some (v4)) : Spec (lim Tryd.prog) 49 [.v (.int .i64 v1),.v (.int .i64 v2),.v (.int .i64 v3)] ⟨[.v (.bool v4)],[]⟩:=by
  unfold figure_isPassed at hr
  have T:=trivial
  apply Spec.fn Tryd.func49 rfl
  focus (simp [Tryd.f49]<;>exact rfl)
  focus
    refine wa_ T (g:=?_)
    obtain ⟨v5,h1,hr⟩:=bs hr
    apply TO.cal (wn T) rfl goFn65 (figure_tenTo_spec h1) rfl rfl rfl
    repeat exact sd T
    refine wa_ T (g:=?_)
    obtain ⟨v6,h2,hr⟩:=bs hr
    apply TO.cal (wn T) rfl goFn65 (figure_tenTo_spec h2) rfl rfl rfl
    repeat exact sd T
    refine wa_ T (g:=?_)
    obtain ⟨⟨v7,v8⟩,h3,hr⟩:=bs hr
    try dsimp only at hr
    apply TO.cal (wn T) rfl goFn64 (figure_product_spec h3) rfl rfl rfl
    repeat exact sd T
    refine wa_ T (g:=?_)
    obtain ⟨⟨v9,v10⟩,h4,hr⟩:=bs hr
    try dsimp only at hr
    apply TO.cal (wn T) rfl goFn64 (figure_product_spec h4) rfl rfl rfl
    repeat exact sd T
    refine wa_ T (g:=?_)
    obtain ⟨v11,h5,hr⟩:=bs hr
    apply TO.cal (wn T) rfl goFn66 (figure_wide_isAtMost_spec h5) rfl rfl rfl
    repeat exact sd T
    refine wa_ T (g:=?_)
    cases hr
    refine ⟨.inr rfl,_,(ry T),?_⟩
    exact wr [] rfl .nil
  rfl

end Go.Rex

namespace Go.Rex
open Go.Proofs
open Go Go.Rex Go.RowKit
set_option maxRecDepth 100000
set_option maxHeartbeats 200000
def y22:=an @ag3 <| an @ag53 <| an @cs57 <| an @fd37_0 <| an @fd37_1 <| an @fd57_0 <| an @ok57 <| @so53
theorem figure_heard_passing_c1_4410_spec {v1 : Int} {v2 : Int} {v3 : (List (Int × Int))} {v4 : Int} {v5 : Bool} (hr : figure_heard_passing_c1_4410 v1 v2 v3 v4 = some (v5)) : Spec (lim Tryd.prog) 48 [.agg [.v (.int .i64 v1),.v (.int .i64 v2)],.fptr true [.list 2 (v3.map e_ii)] 0,.fptr true [.v (.int .i64 v4)] 0] ⟨[.v (.bool v5)],[]⟩:=by
  unfold figure_heard_passing_c1_4410 at hr
  have T:=an y22 <| @e_ii.eq_1
  apply Spec.fn Tryd.func48 rfl
  focus (simp [Tryd.f48]<;>exact rfl)
  focus
    refine wB T (g:=?_)
    obtain ⟨⟨v6,v7⟩,h1,hr⟩:=bs hr
    try dsimp only at hr
    have T:=an (gx e_ii h1) T
    refine wA T (g:=?_)
    obtain ⟨v8,h2,hr⟩:=bs hr
    apply TD.cal (wn T) rfl goFn49 (figure_isPassed_spec h2) rfl rfl rfl
    repeat exact sd T
    refine wa_ T (g:=?_)
    cases hr
    refine ⟨.inr rfl,_,(ry T),?_⟩
    exact wr [] rfl .nil
  rfl

end Go.Rex

namespace Go.Rex
open Go.Proofs
open Go Go.Rex Go.RowKit
set_option maxRecDepth 100000
set_option maxHeartbeats 200000
def y23:=an @ag57 <| an @cs57 <| an @ok57 <| an @so53 <| @wi64_0a1
theorem slices_IndexFunc_figure_ends_figure_ends_f4f3_spec {v1 : (List (Int × Int))} {v2 : (List (Int × Int))} {v3 : Int} {v4 : Int} (hr : slices_IndexFunc_figure_ends_figure_ends_f4f3 v1 v2 v3 = some (v4)) : Spec (lim Tryd.prog) 47 [.list 2 (v1.map e_ii),.func 48 [] [.fptr true [.list 2 (v2.map e_ii)] 0,.fptr true [.v (.int .i64 v3)] 0]] ⟨[.v (.int .i64 v4)],[]⟩:=by
  unfold slices_IndexFunc_figure_ends_figure_ends_f4f3 at hr
  have T:=an y23 <| @e_ii.eq_1
  apply Spec.fn Tryd.func47 rfl
  focus (simp [Tryd.f47]<;>exact rfl)
  focus
    refine wc_ T (g:=?_)
    obtain ⟨v13,h9,hr⟩:=bs hr
    refine TX.loopE (step:=slices_IndexFunc_figure_ends_figure_ends_f4f3_l1 v1 v2 v3) (x:=0) h9 (fun v5=>⟨.list 2 (v1.map e_ii) :: .func 48 [] [.fptr true [.list 2 (v2.map e_ii)] 0,.fptr true [.v (.int .i64 v3)] 0] :: .junk :: .junk :: .junk :: .junk :: .junk :: .v (.int .i64 (v1.length : Int)) :: .v (.int .i64 v5) :: .junk :: .junk :: .junk :: .junk :: .junk :: .junk :: .junk :: .junk :: .junk :: .junk :: [],[]⟩) (fun e=>match e with|(.inl v9)=>(.ret,⟨.junk :: .junk :: .junk :: .junk :: .v (.int .i64 v9) :: .junk :: .junk :: .junk :: .junk :: .junk :: .junk :: .junk :: .junk :: .junk :: .junk :: .junk :: .junk :: .junk :: .junk :: [],[]⟩)|(.inr _)=>(.exit 0,⟨.junk :: .junk :: .junk :: .junk :: .junk :: .junk :: .junk :: .junk :: .junk :: .junk :: .junk :: .junk :: .junk :: .junk :: .junk :: .junk :: .junk :: .junk :: .junk :: [],[]⟩)) ?_ ?_ ?_ ?_
    · rintro v5 v0 hr
      dsimp only [slices_IndexFunc_figure_ends_figure_ends_f4f3_l1] at hr
      try dsimp only
      refine wa_ T (g:=?_)
      rcases ifs hr with ⟨h5,hr⟩|⟨h5,hr⟩
      · have T:=an h5 T
        refine wa_ T (g:=?_)
        obtain ⟨⟨v10,v11⟩,h6,hr⟩:=bs hr
        try dsimp only at hr
        have T:=an (gx e_ii h6) T
        refine wA T (g:=?_)
        obtain ⟨v12,h7,hr⟩:=bs hr
        apply TO.cal (wn T) rfl goFn48 (figure_heard_passing_c1_4410_spec h7) rfl rfl rfl
        repeat exact sd T
        refine wa_ T (g:=?_)
        rcases ifs hr with ⟨h8,hr⟩|⟨h8,hr⟩
        · have T:=an h8 T
          refine wa_ T (g:=?_)
          cases hr
          refine ⟨rfl,?_⟩
          exact wk_ T [] rfl .nil
        · have T:=an h8 T
          refine wa_ T (g:=?_)
          cases hr
          refine ⟨rfl,?_⟩
          exact wk_ T [] rfl .nil
      · have T:=an h5 T
        refine wa_ T (g:=?_)
        cases hr
        refine ⟨rfl,?_⟩
        exact wk_ T [] rfl .nil
    · intro e h;rcases e with _|e<;>cases h
    · try dsimp only
      rcases v13 with v14|_
      · try dsimp only at hr
        try dsimp only
        refine wa_ T (g:=?_)
        cases hr
        refine ⟨.inr rfl,_,(ry T),?_⟩
        exact wr [] rfl .nil
      · try dsimp only at hr
        try dsimp only
        refine wa_ T (g:=?_)
        cases hr
        refine ⟨.inr rfl,_,(ry T),?_⟩
        exact wr [] rfl .nil
    · try dsimp only
      exact wr [] rfl .nil
  rfl

end Go.Rex

namespace Go.Rex
open Go.Proofs
open Go Go.Rex Go.RowKit
set_option maxRecDepth 100000
set_option maxHeartbeats 200000
def y24:=an @ag3 <| an @ag53 <| an @cs57 <| an @fd37_0 <| an @fd37_1 <| an @fd57_0 <| an @ok57 <| @so53
theorem figure_heard_passing_c2_4410_spec {v1 : Int} {v2 : Int} {v3 : (List (Int × Int))} {v4 : Int} {v5 : Bool} (hr : figure_heard_passing_c2_4410 v1 v2 v3 v4 = some (v5)) : Spec (lim Tryd.prog) 50 [.agg [.v (.int .i64 v1),.v (.int .i64 v2)],.fptr true [.list 2 (v3.map e_ii)] 0,.fptr true [.v (.int .i64 v4)] 0] ⟨[.v (.bool v5)],[]⟩:=by
  unfold figure_heard_passing_c2_4410 at hr
  have T:=an y24 <| @e_ii.eq_1
  apply Spec.fn Tryd.func50 rfl
  focus (simp [Tryd.f50]<;>exact rfl)
  focus
    refine wB T (g:=?_)
    obtain ⟨⟨v6,v7⟩,h1,hr⟩:=bs hr
    try dsimp only at hr
    have T:=an (gx e_ii h1) T
    refine wA T (g:=?_)
    obtain ⟨v8,h2,hr⟩:=bs hr
    apply TD.cal (wn T) rfl goFn49 (figure_isPassed_spec h2) rfl rfl rfl
    repeat exact sd T
    refine wa_ T (g:=?_)
    cases hr
    refine ⟨.inr rfl,_,(ry T),?_⟩
    exact wr [] rfl .nil
  rfl

end Go.Rex

namespace Go.Rex
open Go.Proofs
open Go Go.Rex Go.RowKit
set_option maxRecDepth 100000
set_option maxHeartbeats 200000
def y25:=an @ag57 <| an @cs57 <| an @ok57 <| an @so53 <| @wi64_0a1
theorem slices_IndexFunc_figure_ends_figure_ends_da95_spec {v1 : (List (Int × Int))} {v2 : (List (Int × Int))} {v3 : Int} {v4 : Int} (hr : slices_IndexFunc_figure_ends_figure_ends_da95 v1 v2 v3 = some (v4)) : Spec (lim Tryd.prog) 47 [.list 2 (v1.map e_ii),.func 50 [] [.fptr true [.list 2 (v2.map e_ii)] 0,.fptr true [.v (.int .i64 v3)] 0]] ⟨[.v (.int .i64 v4)],[]⟩:=by
  unfold slices_IndexFunc_figure_ends_figure_ends_da95 at hr
  have T:=an y25 <| @e_ii.eq_1
  apply Spec.fn Tryd.func47 rfl
  focus (simp [Tryd.f47]<;>exact rfl)
  focus
    refine wc_ T (g:=?_)
    obtain ⟨v13,h9,hr⟩:=bs hr
    refine TX.loopE (step:=slices_IndexFunc_figure_ends_figure_ends_da95_l1 v1 v2 v3) (x:=0) h9 (fun v5=>⟨.list 2 (v1.map e_ii) :: .func 50 [] [.fptr true [.list 2 (v2.map e_ii)] 0,.fptr true [.v (.int .i64 v3)] 0] :: .junk :: .junk :: .junk :: .junk :: .junk :: .v (.int .i64 (v1.length : Int)) :: .v (.int .i64 v5) :: .junk :: .junk :: .junk :: .junk :: .junk :: .junk :: .junk :: .junk :: .junk :: .junk :: [],[]⟩) (fun e=>match e with|(.inl v9)=>(.ret,⟨.junk :: .junk :: .junk :: .junk :: .v (.int .i64 v9) :: .junk :: .junk :: .junk :: .junk :: .junk :: .junk :: .junk :: .junk :: .junk :: .junk :: .junk :: .junk :: .junk :: .junk :: [],[]⟩)|(.inr _)=>(.exit 0,⟨.junk :: .junk :: .junk :: .junk :: .junk :: .junk :: .junk :: .junk :: .junk :: .junk :: .junk :: .junk :: .junk :: .junk :: .junk :: .junk :: .junk :: .junk :: .junk :: [],[]⟩)) ?_ ?_ ?_ ?_
    · rintro v5 v0 hr
      dsimp only [slices_IndexFunc_figure_ends_figure_ends_da95_l1] at hr
      try dsimp only
      refine wa_ T (g:=?_)
      rcases ifs hr with ⟨h5,hr⟩|⟨h5,hr⟩
      · have T:=an h5 T
        refine wa_ T (g:=?_)
        obtain ⟨⟨v10,v11⟩,h6,hr⟩:=bs hr
        try dsimp only at hr
        have T:=an (gx e_ii h6) T
        refine wA T (g:=?_)
        obtain ⟨v12,h7,hr⟩:=bs hr
        apply TO.cal (wn T) rfl goFn50 (figure_heard_passing_c2_4410_spec h7) rfl rfl rfl
        repeat exact sd T
        refine wa_ T (g:=?_)
        rcases ifs hr with ⟨h8,hr⟩|⟨h8,hr⟩
        · have T:=an h8 T
          refine wa_ T (g:=?_)
          cases hr
          refine ⟨rfl,?_⟩
          exact wk_ T [] rfl .nil
        · have T:=an h8 T
          refine wa_ T (g:=?_)
          cases hr
          refine ⟨rfl,?_⟩
          exact wk_ T [] rfl .nil
      · have T:=an h5 T
        refine wa_ T (g:=?_)
        cases hr
        refine ⟨rfl,?_⟩
        exact wk_ T [] rfl .nil
    · intro e h;rcases e with _|e<;>cases h
    · try dsimp only
      rcases v13 with v14|_
      · try dsimp only at hr
        try dsimp only
        refine wa_ T (g:=?_)
        cases hr
        refine ⟨.inr rfl,_,(ry T),?_⟩
        exact wr [] rfl .nil
      · try dsimp only at hr
        try dsimp only
        refine wa_ T (g:=?_)
        cases hr
        refine ⟨.inr rfl,_,(ry T),?_⟩
        exact wr [] rfl .nil
    · try dsimp only
      exact wr [] rfl .nil
  rfl

end Go.Rex

namespace Go.Rex
open Go.Proofs
open Go Go.Rex Go.RowKit
set_option maxRecDepth 100000
set_option maxHeartbeats 200000
def y26:=an @ag50 <| an @ag53 <| an @ag57 <| an @cs50 <| an @cs53 <| an @cs57 <| an @ok50 <| an @ok53 <| an @ok57 <| an @st57 <| an @zc53 <| @zc57
theorem figure_heard_passing_spec {v1 : Int} {v2 : (List Nat)} {v3 : Int} {v4 : Int} {v5 : Int} {v6 : Int} {v7 : Int} {v8 : Int} (hr : figure_heard_passing v1 v2 v3 v4 v5 = some (v6,v7,v8)) : Spec (lim Tryd.prog) 31 [.agg [.v (.int .i64 v1),.list 1 (v2.map e_f),.v (.int .i64 v3),.v (.int .i64 v4)],.v (.int .i64 v5)] ⟨[.tuple [.agg [.v (.int .i64 v6),.v (.int .i64 v7)],.v (.int .i64 v8)]],[]⟩:=by
  unfold figure_heard_passing at hr
  have T:=an y26 <| @e_f.eq_1
  apply Spec.fn Tryd.func31 rfl
  focus (simp [Tryd.f31]<;>exact rfl)
  focus
    refine wB T (g:=?_)
    obtain ⟨v9,h1,hr⟩:=bs hr
    apply TO.cal (wn T) rfl goFn15 (figure_heard_sums_spec h1) rfl rfl rfl
    repeat exact sd T
    refine wA T (g:=?_)
    apply TO.frz 1 rfl rfl
    repeat exact sd T
    refine wa_ T (g:=?_)
    apply TO.frz 2 rfl rfl
    repeat exact sd T
    refine wa_ T (g:=?_)
    obtain ⟨v10,h2,hr⟩:=bs hr
    apply TO.cal (wn T) rfl goFn47 (slices_IndexFunc_figure_ends_figure_ends_f4f3_spec h2) rfl rfl rfl
    repeat exact sd T
    refine wA T (g:=?_)
    obtain ⟨v11,h3,hr⟩:=bs hr
    apply TO.cal (wn T) rfl goFn47 (slices_IndexFunc_figure_ends_figure_ends_da95_spec h3) rfl rfl rfl
    repeat exact sd T
    refine wa_ T (g:=?_)
    rcases ifs hr with ⟨h4,hr⟩|⟨h4,hr⟩
    · have T:=an h4 T
      refine wa_ T (g:=?_)
      cases hr
      refine ⟨.inr rfl,_,(ry T),?_⟩
      exact wk_ T [] rfl .nil
    · have T:=an h4 T
      refine wA T (g:=?_)
      obtain ⟨v12,h5,hr⟩:=bs hr
      apply TO.cal (wn T) rfl goFn16 (figure_heard_count_spec h5) rfl rfl rfl
      repeat exact sd T
      refine wa_ T (g:=?_)
      rcases ifs hr with ⟨h6,hr⟩|⟨h6,hr⟩
      · have T:=an h6 T
        refine wa_ T (g:=?_)
        cases hr
        refine ⟨.inr rfl,_,(ry T),?_⟩
        exact wk_ T [] rfl .nil
      · have T:=an h6 T
        refine wa_ T (g:=?_)
        apply TO.pop1 (wn T) (pop_max rfl rfl)
        repeat exact sd T
        refine wa_ T (g:=?_)
        obtain ⟨⟨v13,v14⟩,h7,hr⟩:=bs hr
        try dsimp only at hr
        apply TO.cal (wn T) rfl goFn38 (figure_between_spec h7) rfl rfl rfl
        repeat exact sd T
        refine wa_ T (g:=?_)
        cases hr
        refine ⟨.inr rfl,_,(ry T),?_⟩
        exact wk_ T [] rfl .nil
  rfl

end Go.Rex

namespace Go.Rex
open Go.Proofs
open Go Go.Rex Go.RowKit
set_option maxRecDepth 100000
set_option maxHeartbeats 200000
def y27:=an @ag3 <| an @ag57 <| an @cs57 <| an @fd37_0 <| an @fd37_1 <| an @fd57_0 <| an @ok57 <| @zc57
theorem figure_ends_less_spec {v1 : Int} {v2 : Int} {v3 : Int} {v4 : Int} {v5 : Int} {v6 : Int} (hr : figure_ends_less v1 v2 v3 v4 = some (v5,v6)) : Spec (lim Tryd.prog) 33 [.agg [.v (.int .i64 v1),.v (.int .i64 v2)],.agg [.v (.int .i64 v3),.v (.int .i64 v4)]] ⟨[.agg [.v (.int .i64 v5),.v (.int .i64 v6)]],[]⟩:=by
  unfold figure_ends_less at hr
  have T:=y27
  apply Spec.fn Tryd.func33 rfl
  focus (simp [Tryd.f33]<;>exact rfl)
  focus
    refine wB T (g:=?_)
    apply TO.pop1 (wn T) (pop_max rfl rfl)
    repeat exact sd T
    refine wA T (g:=?_)
    obtain ⟨⟨v7,v8⟩,h1,hr⟩:=bs hr
    try dsimp only at hr
    apply TO.cal (wn T) rfl goFn38 (figure_between_spec h1) rfl rfl rfl
    repeat exact sd T
    refine wa_ T (g:=?_)
    cases hr
    refine ⟨.inr rfl,_,(ry T),?_⟩
    exact wr [] rfl .nil
  rfl

end Go.Rex

namespace Go.Rex
open Go.Proofs
open Go Go.Rex Go.RowKit
set_option maxRecDepth 100000
set_option maxHeartbeats 200000
def y28:=an @ag3 <| an @ag57 <| an @cs57 <| an @fd37_0 <| an @fd37_1 <| an @fd57_0 <| an @ok57 <| @zc57
theorem figure_ends_times_spec {v1 : Int} {v2 : Int} {v3 : Int} {v4 : Int} {v5 : Int} (hr : figure_ends_times v1 v2 v3 = some (v4,v5)) : Spec (lim Tryd.prog) 34 [.agg [.v (.int .i64 v1),.v (.int .i64 v2)],.v (.int .i64 v3)] ⟨[.agg [.v (.int .i64 v4),.v (.int .i64 v5)]],[]⟩:=by
  unfold figure_ends_times at hr
  have T:=y28
  apply Spec.fn Tryd.func34 rfl
  focus (simp [Tryd.f34]<;>exact rfl)
  focus
    refine wB T (g:=?_)
    obtain ⟨⟨v6,v7⟩,h1,hr⟩:=bs hr
    try dsimp only at hr
    apply TO.cal (wn T) rfl goFn38 (figure_between_spec h1) rfl rfl rfl
    repeat exact sd T
    refine wa_ T (g:=?_)
    cases hr
    refine ⟨.inr rfl,_,(ry T),?_⟩
    exact wr [] rfl .nil
  rfl

end Go.Rex

namespace Go.Rex
open Go.Proofs
open Go Go.Rex Go.RowKit
set_option maxRecDepth 100000
set_option maxHeartbeats 200000
theorem figure_down_spec {v1 : Int} {v2 : Int} {v3 : Int} (hr : figure_down v1 v2 = some (v3)) : Spec (lim Tryd.prog) 39 [.v (.int .i64 v1),.v (.int .i64 v2)] ⟨[.v (.int .i64 v3)],[]⟩:=by
  unfold figure_down at hr
  have T:=trivial
  apply Spec.fn Tryd.func39 rfl
  focus (simp [Tryd.f39]<;>exact rfl)
  focus
    refine wa_ T (g:=?_)
    by_cases h1 : v2 = 0
    · rw [if_pos h1] at hr
      cases hr
    · rw [if_neg h1] at hr
      have T:=an h1 T
      refine wa_ T (g:=?_)
      cases hr
      refine ⟨.inr rfl,_,(ry T),?_⟩
      exact wr [] rfl .nil
  rfl

end Go.Rex

namespace Go.Rex
open Go.Proofs
open Go Go.Rex Go.RowKit
set_option maxRecDepth 100000
set_option maxHeartbeats 200000
theorem figure_up_spec {v1 : Int} {v2 : Int} {v3 : Int} (hr : figure_up v1 v2 = some (v3)) : Spec (lim Tryd.prog) 40 [.v (.int .i64 v1),.v (.int .i64 v2)] ⟨[.v (.int .i64 v3)],[]⟩:=by
  unfold figure_up at hr
  have T:=trivial
  apply Spec.fn Tryd.func40 rfl
  focus (simp [Tryd.f40]<;>exact rfl)
  focus
    refine wa_ T (g:=?_)
    by_cases h1 : v2 = 0
    · rw [if_pos h1] at hr
      cases hr
    · rw [if_neg h1] at hr
      have T:=an h1 T
      refine wa_ T (g:=?_)
      cases hr
      refine ⟨.inr rfl,_,(ry T),?_⟩
      exact wr [] rfl .nil
  rfl

end Go.Rex

namespace Go.Rex
open Go.Proofs
open Go Go.Rex Go.RowKit
set_option maxRecDepth 100000
set_option maxHeartbeats 200000
def y29:=an @ag3 <| an @ag57 <| an @cs57 <| an @fd24_0 <| an @fd26_0 <| an @fd37_0 <| an @fd37_1 <| an @fd50_0 <| an @fd57_0 <| an @ok57 <| @zc57
theorem figure_heard_time_spec {v1 : Int} {v2 : (List Nat)} {v3 : Int} {v4 : Int} {v5 : Int} {v6 : Int} {v7 : Int} {v8 : Int} (hr : figure_heard_time v1 v2 v3 v4 v5 v6 = some (v7,v8)) : Spec (lim Tryd.prog) 32 [.agg [.v (.int .i64 v1),.list 1 (v2.map e_f),.v (.int .i64 v3),.v (.int .i64 v4)],.agg [.v (.int .i64 v5),.v (.int .i64 v6)]] ⟨[.agg [.v (.int .i64 v7),.v (.int .i64 v8)]],[]⟩:=by
  unfold figure_heard_time at hr
  have T:=an y29 <| @e_f.eq_1
  apply Spec.fn Tryd.func32 rfl
  focus (simp [Tryd.f32]<;>exact rfl)
  focus
    refine wB T (g:=?_)
    obtain ⟨⟨v9,v10⟩,h1,hr⟩:=bs hr
    try dsimp only at hr
    apply TO.cal (wn T) rfl goFn34 (figure_ends_times_spec h1) rfl rfl rfl
    repeat exact sd T
    refine wA T (g:=?_)
    obtain ⟨v11,h2,hr⟩:=bs hr
    apply TD.cal (wn T) rfl goFn39 (figure_down_spec h2) rfl rfl rfl
    repeat exact sd T
    refine wA T (g:=?_)
    obtain ⟨v12,h3,hr⟩:=bs hr
    apply TD.cal (wn T) rfl goFn40 (figure_up_spec h3) rfl rfl rfl
    repeat exact sd T
    refine wa_ T (g:=?_)
    obtain ⟨⟨v13,v14⟩,h4,hr⟩:=bs hr
    try dsimp only at hr
    apply TD.cal (wn T) rfl goFn38 (figure_between_spec h4) rfl rfl rfl
    repeat exact sd T
    refine wa_ T (g:=?_)
    cases hr
    refine ⟨.inr rfl,_,(ry T),?_⟩
    exact wr [] rfl .nil
  rfl

end Go.Rex

namespace Go.Rex
open Go.Proofs
open Go Go.Rex Go.RowKit
set_option maxRecDepth 100000
set_option maxHeartbeats 1000000
def y30:=an @ag3 <| an @ag37 <| an @ag50 <| an @ag57 <| an @ag75 <| an @ar76 <| an @cs37 <| an @cs50 <| an @cs57 <| an @cs75 <| an @fd37_0 <| an @fd57_0 <| an @fd75_0 <| an @fd75_1 <| an @fd75_2 <| an @ok37 <| an @ok50 <| an @ok57 <| an @ok75 <| an @so76 <| an @st57 <| an @zc57 <| @zc75
theorem figure_heard_decay_spec {v1 : Int} {v2 : (List Nat)} {v3 : Int} {v4 : Int} {v5 : Int} {v6 : Int} {v7 : Int} {v8 : Int} (hr : figure_heard_decay v1 v2 v3 v4 v5 = some (v6,v7,v8)) : Spec (lim Tryd.prog) 19 [.agg [.v (.int .i64 v1),.list 1 (v2.map e_f),.v (.int .i64 v3),.v (.int .i64 v4)],.v (.int .i64 v5)] ⟨[.tuple [.agg [.v (.int .i64 v6),.v (.int .i64 v7)],.v (.int .i64 v8)]],[]⟩:=by
  unfold figure_heard_decay at hr
  have T:=an y30 <| an @e_f.eq_1 <| @e_iii.eq_1
  apply Spec.fn Tryd.func19 rfl
  focus (simp [Tryd.f19]<;>exact rfl)
  focus
    refine wB T (g:=?_)
    obtain ⟨⟨v9,v10⟩,h1,hr⟩:=bs hr
    try dsimp only at hr
    apply TO.cal (wn T) rfl goFn30 (figure_heard_all_spec h1) rfl rfl rfl
    repeat exact sd T
    refine wa_ T (g:=?_)
    rcases ifs hr with ⟨h2,hr⟩|⟨h2,hr⟩
    · have T:=an h2 T
      refine wa_ T (g:=?_)
      cases hr
      refine ⟨.inr rfl,_,(ry T),?_⟩
      exact wk_ T [] rfl .nil
    · have T:=an h2 T
      refine wa_ T (g:=?_)
      obtain ⟨⟨v11,v12,v13⟩,h3,hr⟩:=bs hr
      try dsimp only at hr
      have h3l:=getI_lt h3
      refine wa_ T (g:=?_)
      have T:=an h3l T
      apply TO.pop1 (wn T) (iaP (xs:=([(0,2,6),(1,5,3),(1,7,2)] : List (Int × Int × Int))) h3 rfl rfl so76 ar76 rfl ok75 cs75)
      repeat exact sd T
      refine wa_ T (g:=?_)
      apply TO.ld (wn T) rfl (ldf_ok (p:=.agg [.v (.int .i64 v11),.v (.int .i64 v12),.v (.int .i64 v13)]) (fo:=0) (f:=e_iii) (xs:=([(0,2,6),(1,5,3),(1,7,2)] : List (Int × Int × Int))) h3 rfl (fun _=>rfl) rfl (by simp only [partT,zz,y30,e_f,e_iii,Nat.reduceAdd,Nat.reduceMul,Nat.reduceLeDiff,Nat.reduceEqDiff,h2,h3l]<;>exact rfl))
      repeat exact sd T
      refine wA T (g:=?_)
      rcases ifs hr with ⟨h4,hr⟩|⟨h4,hr⟩
      · have T:=an h4 T
        refine wA T (g:=?_)
        obtain ⟨⟨v14,v15,v16⟩,h5,hr⟩:=bs hr
        try dsimp only at hr
        apply TO.cal (wn T) rfl goFn31 (figure_heard_passing_spec h5) rfl rfl rfl
        repeat exact sd T
        refine wa_ T (g:=?_)
        rcases ifs hr with ⟨h6,hr⟩|⟨h6,hr⟩
        · have T:=an h6 T
          refine wa_ T (g:=?_)
          cases hr
          refine ⟨.inr rfl,_,(ry T),?_⟩
          exact wk_ T [] rfl .nil
        · have T:=an h6 T
          refine wA T (g:=?_)
          obtain ⟨⟨v17,v18,v19⟩,h7,hr⟩:=bs hr
          try dsimp only at hr
          apply TO.cal (wn T) rfl goFn31 (figure_heard_passing_spec h7) rfl rfl rfl
          repeat exact sd T
          refine wa_ T (g:=?_)
          rcases ifs hr with ⟨h8,hr⟩|⟨h8,hr⟩
          · have T:=an h8 T
            refine wa_ T (g:=?_)
            cases hr
            refine ⟨.inr rfl,_,(ry T),?_⟩
            exact wk_ T [] rfl .nil
          · have T:=an h8 T
            refine wA T (g:=?_)
            obtain ⟨⟨v20,v21⟩,h9,hr⟩:=bs hr
            try dsimp only at hr
            apply TD.cal (wn T) rfl goFn33 (figure_ends_less_spec h9) rfl rfl rfl
            repeat exact sd T
            refine wA T (g:=?_)
            obtain ⟨⟨v22,v23⟩,h10,hr⟩:=bs hr
            try dsimp only at hr
            apply TD.cal (wn T) rfl goFn34 (figure_ends_times_spec h10) rfl rfl rfl
            repeat exact sd T
            refine wa_ T (g:=?_)
            obtain ⟨⟨v24,v25⟩,h11,hr⟩:=bs hr
            try dsimp only at hr
            apply TD.cal (wn T) rfl goFn32 (figure_heard_time_spec h11) rfl rfl rfl
            repeat exact sd T
            refine wa_ T (g:=?_)
            cases hr
            refine ⟨.inr rfl,_,(ry T),?_⟩
            exact wk_ T [] rfl .nil
      · have T:=an h4 T
        refine wA T (g:=?_)
        obtain ⟨⟨v26,v27,v28⟩,h12,hr⟩:=bs hr
        try dsimp only at hr
        apply TO.cal (wn T) rfl goFn31 (figure_heard_passing_spec h12) rfl rfl rfl
        repeat exact sd T
        refine wa_ T (g:=?_)
        rcases ifs hr with ⟨h13,hr⟩|⟨h13,hr⟩
        · have T:=an h13 T
          refine wa_ T (g:=?_)
          cases hr
          refine ⟨.inr rfl,_,(ry T),?_⟩
          exact wk_ T [] rfl .nil
        · have T:=an h13 T
          refine wA T (g:=?_)
          obtain ⟨⟨v29,v30⟩,h14,hr⟩:=bs hr
          try dsimp only at hr
          apply TD.cal (wn T) rfl goFn33 (figure_ends_less_spec h14) rfl rfl rfl
          repeat exact sd T
          refine wA T (g:=?_)
          obtain ⟨⟨v31,v32⟩,h15,hr⟩:=bs hr
          try dsimp only at hr
          apply TD.cal (wn T) rfl goFn34 (figure_ends_times_spec h15) rfl rfl rfl
          repeat exact sd T
          refine wa_ T (g:=?_)
          obtain ⟨⟨v33,v34⟩,h16,hr⟩:=bs hr
          try dsimp only at hr
          apply TD.cal (wn T) rfl goFn32 (figure_heard_time_spec h16) rfl rfl rfl
          repeat exact sd T
          refine wa_ T (g:=?_)
          cases hr
          refine ⟨.inr rfl,_,(ry T),?_⟩
          exact wk_ T [] rfl .nil
  rfl

end Go.Rex

namespace Go.Rex
open Go.Proofs
open Go Go.Rex Go.RowKit
set_option maxRecDepth 100000
set_option maxHeartbeats 200000
def y31:=an @ag26 <| an @ag37 <| an @ag50 <| an @cs26 <| an @cs33 <| an @cs37 <| an @cs50 <| an @cs57 <| an @fd57_0 <| an @ok26 <| an @ok37 <| an @ok50 <| an @ok57 <| an @so72 <| an @st37 <| an @zc33 <| an @zc37 <| an @zc50 <| @zc57
theorem figure_DecayWithin_spec {v1 : Int} {v2 : (List Nat)} {v3 : Int} {v4 : Int} {v5 : Int} {v6 : Int} {v7 : Int} {v8 : Int} (hr : figure_DecayWithin v1 v2 v3 v4 v5 = some (v6,v7,v8)) : Spec (lim Tryd.prog) 9 [.agg [.v (.int .i64 v1),.list 1 (v2.map e_f),.v (.int .i64 v3),.v (.int .i64 v4)],.v (.int .i64 v5)] ⟨[.tuple [.agg [.v (.int .i64 v6),.v (.int .i64 v7)],.v (.int .i64 v8)]],[]⟩:=by
  unfold figure_DecayWithin at hr
  have T:=an y31 <| an @e_f.eq_1 <| @e_i.eq_1
  apply Spec.fn Tryd.func9 rfl
  focus (simp [Tryd.f9]<;>exact rfl)
  focus
    refine wB T (g:=?_)
    obtain ⟨⟨v9,v10,v11,v12,v13⟩,h1,hr⟩:=bs hr
    try dsimp only at hr
    apply TO.cal (wn T) rfl goFn14 (figure_hear_spec h1) rfl rfl rfl
    repeat exact sd T
    refine wa_ T (g:=?_)
    obtain ⟨v14,h2,hr⟩:=bs hr
    apply TO.cal (wn T) rfl goFn18 (figure_kindError_spec h2) rfl rfl rfl
    repeat exact sd T
    refine wa_ T (g:=?_)
    apply TO.bm e_i ([v13,v14] : List Int) (wn T) rfl (by simp only [zz,y31,e_f,e_i,Nat.reduceAdd,Nat.reduceMul,Nat.reduceLeDiff,Nat.reduceEqDiff,tslice,tparts];exact rfl) rfl
    repeat exact sd T
    refine wa_ T (g:=?_)
    obtain ⟨v15,h3,hr⟩:=bs hr
    apply TO.cal (wn T) rfl goFn17 (figure_firstError_spec h3) rfl rfl rfl
    repeat exact sd T
    refine wa_ T (g:=?_)
    rcases ifs hr with ⟨h4,hr⟩|⟨h4,hr⟩
    · have T:=an h4 T
      refine wa_ T (g:=?_)
      cases hr
      refine ⟨.inr rfl,_,(ry T),?_⟩
      exact wk_ T [] rfl .nil
    · have T:=an h4 T
      refine wA T (g:=?_)
      obtain ⟨⟨v16,v17,v18⟩,h5,hr⟩:=bs hr
      try dsimp only at hr
      apply TO.cal (wn T) rfl goFn19 (figure_heard_decay_spec h5) rfl rfl rfl
      repeat exact sd T
      refine wA T (g:=?_)
      cases hr
      refine ⟨.inr rfl,_,(ry T),?_⟩
      exact wk_ T [] rfl .nil
  rfl

end Go.Rex

namespace Go.Rex
open Go.Proofs
open Go Go.Rex Go.RowKit
set_option maxRecDepth 100000
set_option maxHeartbeats 200000
theorem figure_timeError_spec {v1 : Int} {v2 : Int} (hr : figure_timeError v1 = some (v2)) : Spec (lim Tryd.prog) 20 [.v (.int .i64 v1)] ⟨[.v (.int .i64 v2)],[]⟩:=by
  unfold figure_timeError at hr
  have T:=trivial
  apply Spec.fn Tryd.func20 rfl
  focus (simp [Tryd.f20]<;>exact rfl)
  focus
    refine wa_ T (g:=?_)
    obtain ⟨v3,h1,hr⟩:=bs hr
    apply TO.cal (wn T) rfl goFn35 (figure_within_spec h1) rfl rfl rfl
    repeat exact sd T
    refine wa_ T (g:=?_)
    cases hr
    refine ⟨.inr rfl,_,(ry T),?_⟩
    exact wr [] rfl .nil
  rfl

end Go.Rex

namespace Go.Rex
open Go.Proofs
open Go Go.Rex Go.RowKit
set_option maxRecDepth 100000
set_option maxHeartbeats 200000
theorem figure_sampleAt_spec {v1 : Int} {v2 : Int} {v3 : Int} (hr : figure_sampleAt v1 v2 = some (v3)) : Spec (lim Tryd.prog) 67 [.v (.int .i64 v1),.v (.int .i64 v2)] ⟨[.v (.int .i64 v3)],[]⟩:=by
  unfold figure_sampleAt at hr
  have T:=trivial
  apply Spec.fn Tryd.func67 rfl
  focus (simp [Tryd.f67]<;>exact rfl)
  focus
    refine wa_ T (g:=?_)
    obtain ⟨v4,h1,hr⟩:=bs hr
    apply TO.cal (wn T) rfl goFn40 (figure_up_spec h1) rfl rfl rfl
    repeat exact sd T
    refine wa_ T (g:=?_)
    cases hr
    refine ⟨.inr rfl,_,(ry T),?_⟩
    exact wr [] rfl .nil
  rfl

end Go.Rex

namespace Go.Rex
open Go.Proofs
open Go Go.Rex Go.RowKit
set_option maxRecDepth 100000
set_option maxHeartbeats 200000
def y32:=an @ag3 <| an @ag50 <| an @cs50 <| an @fd24_0 <| an @fd26_0 <| an @fd50_0 <| @ok50
theorem figure_heard_split_spec {v1 : Int} {v2 : (List Nat)} {v3 : Int} {v4 : Int} {v5 : Int} {v6 : Int} (hr : figure_heard_split v1 v2 v3 v4 v5 = some (v6)) : Spec (lim Tryd.prog) 52 [.agg [.v (.int .i64 v1),.list 1 (v2.map e_f),.v (.int .i64 v3),.v (.int .i64 v4)],.v (.int .i64 v5)] ⟨[.v (.int .i64 v6)],[]⟩:=by
  unfold figure_heard_split at hr
  have T:=an y32 <| @e_f.eq_1
  apply Spec.fn Tryd.func52 rfl
  focus (simp [Tryd.f52]<;>exact rfl)
  focus
    refine wB T (g:=?_)
    obtain ⟨v7,h1,hr⟩:=bs hr
    apply TD.cal (wn T) rfl goFn67 (figure_sampleAt_spec h1) rfl rfl rfl
    repeat exact sd T
    refine wA T (g:=?_)
    obtain ⟨v8,h2,hr⟩:=bs hr
    apply TD.cal (wn T) rfl goFn16 (figure_heard_count_spec h2) rfl rfl rfl
    repeat exact sd T
    refine wa_ T (g:=?_)
    apply TD.pop1 (wn T) (pop_min rfl rfl)
    repeat exact sd T
    refine wa_ T (g:=?_)
    cases hr
    refine ⟨.inr rfl,_,(ry T),?_⟩
    exact wr [] rfl .nil
  rfl

end Go.Rex

namespace Go.Rex
open Go.Proofs
open Go Go.Rex Go.RowKit
set_option maxRecDepth 100000
set_option maxHeartbeats 200000
def y33:=an @ag50 <| an @ag57 <| an @cs50 <| an @cs57 <| an @ok50 <| an @ok57 <| @zc57
theorem figure_heard_energy_spec {v1 : Int} {v2 : (List Nat)} {v3 : Int} {v4 : Int} {v5 : Int} {v6 : Int} {v7 : Int} {v8 : Int} (hr : figure_heard_energy v1 v2 v3 v4 v5 v6 = some (v7,v8)) : Spec (lim Tryd.prog) 51 [.agg [.v (.int .i64 v1),.list 1 (v2.map e_f),.v (.int .i64 v3),.v (.int .i64 v4)],.v (.int .i64 v5),.v (.int .i64 v6)] ⟨[.agg [.v (.int .i64 v7),.v (.int .i64 v8)]],[]⟩:=by
  unfold figure_heard_energy at hr
  have T:=an y33 <| @e_f.eq_1
  apply Spec.fn Tryd.func51 rfl
  focus (simp [Tryd.f51]<;>exact rfl)
  focus
    refine wb_ T (g:=?_)
    obtain ⟨⟨v22,v23⟩,h7,hr⟩:=bs hr
    try dsimp only at hr
    refine TX.loopE (step:=figure_heard_energy_l1 v1 v2 v3 v4 v6) (x:=(0,0,v5)) h7 (fun (v9,v10,v11)=>⟨.junk :: .junk :: .v (.int .i64 v6) :: .fptr true [.v (.int .i64 v1),.list 1 (v2.map e_f),.v (.int .i64 v3),.v (.int .i64 v4)] 0 :: .junk :: .junk :: .lptr 0 0 0 :: .lptr 1 0 0 :: .v (.int .i64 v11) :: .junk :: .junk :: .junk :: .junk :: .junk :: .junk :: .junk :: .junk :: .junk :: .junk :: .junk :: .junk :: [],[.var [.v (.int .i64 0),.v (.int .i64 0)],.var [.v (.int .i64 v9),.v (.int .i64 v10)]]⟩) (fun (v16,v17)=>(.exit 0,⟨.junk :: .junk :: .junk :: .junk :: .junk :: .junk :: .lptr 0 0 0 :: .lptr 1 0 0 :: .junk :: .junk :: .junk :: .junk :: .junk :: .junk :: .junk :: .junk :: .junk :: .junk :: .junk :: .junk :: .junk :: [],[.var [.v (.int .i64 0),.v (.int .i64 0)],.var [.v (.int .i64 v16),.v (.int .i64 v17)]]⟩)) ?_ ?_ ?_ ?_
    · rintro ⟨v9,v10,v11⟩ v0 hr
      dsimp only [figure_heard_energy_l1] at hr
      try dsimp only
      refine wa_ T (g:=?_)
      rcases ifs hr with ⟨h4,hr⟩|⟨h4,hr⟩
      · have T:=an h4 T
        refine wA T (g:=?_)
        obtain ⟨⟨v18,v19⟩,h5,hr⟩:=bs hr
        try dsimp only at hr
        apply TD.cal (wn T) rfl goFn28 (figure_heard_square_spec h5) rfl rfl rfl
        repeat exact sd T
        refine wa_ T (g:=?_)
        obtain ⟨⟨v20,v21⟩,h6,hr⟩:=bs hr
        try dsimp only at hr
        apply TD.cal (wn T) rfl goFn27 (figure_ends_plus_spec h6) rfl rfl rfl
        repeat exact sd T
        refine wa_ T (g:=?_)
        cases hr
        refine ⟨rfl,?_⟩
        exact wk_ T [some 0,some 1] rfl (rv (rv .nil rfl) rfl)
      · have T:=an h4 T
        refine wa_ T (g:=?_)
        cases hr
        refine ⟨rfl,?_⟩
        exact wk_ T [some 0,some 1] rfl (rv (rv .nil rfl) rfl)
    · intro e h;cases h
    · try dsimp only
      refine wA T (g:=?_)
      cases hr
      refine ⟨.inr rfl,_,(ry T),?_⟩
      exact wr [] rfl .nil
    · try dsimp only
      exact wr [some 0,some 1] rfl (rv (rv .nil rfl) rfl)
  rfl

end Go.Rex

namespace Go.Rex
open Go.Proofs
open Go Go.Rex Go.RowKit
set_option maxRecDepth 100000
set_option maxHeartbeats 200000
def y34:=an @ag50 <| an @ag57 <| an @cs50 <| an @cs57 <| an @ok50 <| an @ok57 <| @zc57
theorem figure_heard_early_spec {v1 : Int} {v2 : (List Nat)} {v3 : Int} {v4 : Int} {v5 : Int} {v6 : Int} {v7 : Int} (hr : figure_heard_early v1 v2 v3 v4 v5 = some (v6,v7)) : Spec (lim Tryd.prog) 36 [.agg [.v (.int .i64 v1),.list 1 (v2.map e_f),.v (.int .i64 v3),.v (.int .i64 v4)],.v (.int .i64 v5)] ⟨[.agg [.v (.int .i64 v6),.v (.int .i64 v7)]],[]⟩:=by
  unfold figure_heard_early at hr
  have T:=an y34 <| @e_f.eq_1
  apply Spec.fn Tryd.func36 rfl
  focus (simp [Tryd.f36]<;>exact rfl)
  focus
    refine wB T (g:=?_)
    obtain ⟨v8,h1,hr⟩:=bs hr
    apply TD.cal (wn T) rfl goFn52 (figure_heard_split_spec h1) rfl rfl rfl
    repeat exact sd T
    refine wa_ T (g:=?_)
    obtain ⟨⟨v9,v10⟩,h2,hr⟩:=bs hr
    try dsimp only at hr
    apply TD.cal (wn T) rfl goFn51 (figure_heard_energy_spec h2) rfl rfl rfl
    repeat exact sd T
    refine wa_ T (g:=?_)
    cases hr
    refine ⟨.inr rfl,_,(ry T),?_⟩
    exact wr [] rfl .nil
  rfl

end Go.Rex

namespace Go.Rex
open Go.Proofs
open Go Go.Rex Go.RowKit
set_option maxRecDepth 100000
set_option maxHeartbeats 200000
def y35:=an @ag50 <| an @ag57 <| an @cs50 <| an @cs57 <| an @ok50 <| an @ok57 <| an @so53 <| @zc57
theorem figure_heard_late_spec {v1 : Int} {v2 : (List Nat)} {v3 : Int} {v4 : Int} {v5 : Int} {v6 : Int} {v7 : Int} (hr : figure_heard_late v1 v2 v3 v4 v5 = some (v6,v7)) : Spec (lim Tryd.prog) 37 [.agg [.v (.int .i64 v1),.list 1 (v2.map e_f),.v (.int .i64 v3),.v (.int .i64 v4)],.v (.int .i64 v5)] ⟨[.agg [.v (.int .i64 v6),.v (.int .i64 v7)]],[]⟩:=by
  unfold figure_heard_late at hr
  have T:=an y35 <| an @e_f.eq_1 <| @e_ii.eq_1
  apply Spec.fn Tryd.func37 rfl
  focus (simp [Tryd.f37]<;>exact rfl)
  focus
    refine wB T (g:=?_)
    obtain ⟨v8,h1,hr⟩:=bs hr
    apply TD.cal (wn T) rfl goFn15 (figure_heard_sums_spec h1) rfl rfl rfl
    repeat exact sd T
    refine wA T (g:=?_)
    obtain ⟨v9,h2,hr⟩:=bs hr
    apply TD.cal (wn T) rfl goFn52 (figure_heard_split_spec h2) rfl rfl rfl
    repeat exact sd T
    refine wa_ T (g:=?_)
    obtain ⟨⟨v10,v11⟩,h3,hr⟩:=bs hr
    try dsimp only at hr
    have T:=an (gx e_ii h3) T
    refine wA T (g:=?_)
    cases hr
    refine ⟨.inr rfl,_,(ry T),?_⟩
    exact wr [] rfl .nil
  rfl

end Go.Rex

namespace Go.Rex
open Go.Proofs
open Go Go.Rex Go.RowKit
set_option maxRecDepth 100000
set_option maxHeartbeats 1000000
def y36:=an @ag3 <| an @ag50 <| an @ag57 <| an @cs50 <| an @cs57 <| an @fd37_0 <| an @fd37_1 <| an @fd57_0 <| an @ok50 <| an @ok57 <| an @st57 <| @zc57
theorem figure_heard_definition_spec {v1 : Int} {v2 : (List Nat)} {v3 : Int} {v4 : Int} {v5 : Int} {v6 : Int} {v7 : Int} {v8 : Int} (hr : figure_heard_definition v1 v2 v3 v4 v5 = some (v6,v7,v8)) : Spec (lim Tryd.prog) 21 [.agg [.v (.int .i64 v1),.list 1 (v2.map e_f),.v (.int .i64 v3),.v (.int .i64 v4)],.v (.int .i64 v5)] ⟨[.tuple [.agg [.v (.int .i64 v6),.v (.int .i64 v7)],.v (.int .i64 v8)]],[]⟩:=by
  unfold figure_heard_definition at hr
  have T:=an y36 <| @e_f.eq_1
  apply Spec.fn Tryd.func21 rfl
  focus (simp [Tryd.f21]<;>exact rfl)
  focus
    refine wB T (g:=?_)
    obtain ⟨⟨v9,v10⟩,h1,hr⟩:=bs hr
    try dsimp only at hr
    apply TD.cal (wn T) rfl goFn36 (figure_heard_early_spec h1) rfl rfl rfl
    repeat exact sd T
    refine wA T (g:=?_)
    obtain ⟨⟨v11,v12⟩,h2,hr⟩:=bs hr
    try dsimp only at hr
    apply TD.cal (wn T) rfl goFn37 (figure_heard_late_spec h2) rfl rfl rfl
    repeat exact sd T
    refine wA T (g:=?_)
    rcases ifs hr with ⟨h3,hr⟩|⟨h3,hr⟩
    · have T:=an h3 T
      refine wA T (g:=?_)
      rcases ifs hr with ⟨h4,hr⟩|⟨h4,hr⟩
      · have T:=an h4 T
        refine wa_ T (g:=?_)
        cases hr
        refine ⟨.inr rfl,_,(ry T),?_⟩
        exact wk_ T [] rfl .nil
      · have T:=an h4 T
        refine wA T (g:=?_)
        obtain ⟨⟨v13,v14⟩,h5,hr⟩:=bs hr
        try dsimp only at hr
        apply TO.cal (wn T) rfl goFn34 (figure_ends_times_spec h5) rfl rfl rfl
        repeat exact sd T
        refine wA T (g:=?_)
        obtain ⟨v15,h6,hr⟩:=bs hr
        apply TD.cal (wn T) rfl goFn39 (figure_down_spec h6) rfl rfl rfl
        repeat exact sd T
        refine wA T (g:=?_)
        obtain ⟨v16,h7,hr⟩:=bs hr
        apply TD.cal (wn T) rfl goFn40 (figure_up_spec h7) rfl rfl rfl
        repeat exact sd T
        refine wa_ T (g:=?_)
        obtain ⟨⟨v17,v18⟩,h8,hr⟩:=bs hr
        try dsimp only at hr
        apply TD.cal (wn T) rfl goFn38 (figure_between_spec h8) rfl rfl rfl
        repeat exact sd T
        refine wa_ T (g:=?_)
        cases hr
        refine ⟨.inr rfl,_,(ry T),?_⟩
        exact wk_ T [] rfl .nil
    · have T:=an h3 T
      refine wA T (g:=?_)
      obtain ⟨⟨v19,v20⟩,h9,hr⟩:=bs hr
      try dsimp only at hr
      apply TO.cal (wn T) rfl goFn34 (figure_ends_times_spec h9) rfl rfl rfl
      repeat exact sd T
      refine wA T (g:=?_)
      obtain ⟨v21,h10,hr⟩:=bs hr
      apply TD.cal (wn T) rfl goFn39 (figure_down_spec h10) rfl rfl rfl
      repeat exact sd T
      refine wA T (g:=?_)
      obtain ⟨v22,h11,hr⟩:=bs hr
      apply TD.cal (wn T) rfl goFn40 (figure_up_spec h11) rfl rfl rfl
      repeat exact sd T
      refine wa_ T (g:=?_)
      obtain ⟨⟨v23,v24⟩,h12,hr⟩:=bs hr
      try dsimp only at hr
      apply TD.cal (wn T) rfl goFn38 (figure_between_spec h12) rfl rfl rfl
      repeat exact sd T
      refine wa_ T (g:=?_)
      cases hr
      refine ⟨.inr rfl,_,(ry T),?_⟩
      exact wk_ T [] rfl .nil
  rfl

end Go.Rex

namespace Go.Rex
open Go.Proofs
open Go Go.Rex Go.RowKit
set_option maxRecDepth 100000
set_option maxHeartbeats 200000
def y37:=an @ag26 <| an @ag37 <| an @ag50 <| an @cs26 <| an @cs33 <| an @cs37 <| an @cs50 <| an @cs57 <| an @fd57_0 <| an @ok26 <| an @ok37 <| an @ok50 <| an @ok57 <| an @so72 <| an @st37 <| an @zc33 <| an @zc37 <| an @zc50 <| @zc57
theorem figure_DefinitionWithin_spec {v1 : Int} {v2 : (List Nat)} {v3 : Int} {v4 : Int} {v5 : Int} {v6 : Int} {v7 : Int} {v8 : Int} (hr : figure_DefinitionWithin v1 v2 v3 v4 v5 = some (v6,v7,v8)) : Spec (lim Tryd.prog) 10 [.agg [.v (.int .i64 v1),.list 1 (v2.map e_f),.v (.int .i64 v3),.v (.int .i64 v4)],.v (.int .i64 v5)] ⟨[.tuple [.agg [.v (.int .i64 v6),.v (.int .i64 v7)],.v (.int .i64 v8)]],[]⟩:=by
  unfold figure_DefinitionWithin at hr
  have T:=an y37 <| an @e_f.eq_1 <| @e_i.eq_1
  apply Spec.fn Tryd.func10 rfl
  focus (simp [Tryd.f10]<;>exact rfl)
  focus
    refine wB T (g:=?_)
    obtain ⟨⟨v9,v10,v11,v12,v13⟩,h1,hr⟩:=bs hr
    try dsimp only at hr
    apply TO.cal (wn T) rfl goFn14 (figure_hear_spec h1) rfl rfl rfl
    repeat exact sd T
    refine wa_ T (g:=?_)
    obtain ⟨v14,h2,hr⟩:=bs hr
    apply TO.cal (wn T) rfl goFn20 (figure_timeError_spec h2) rfl rfl rfl
    repeat exact sd T
    refine wa_ T (g:=?_)
    apply TO.bm e_i ([v13,v14] : List Int) (wn T) rfl (by simp only [zz,y37,e_f,e_i,Nat.reduceAdd,Nat.reduceMul,Nat.reduceLeDiff,Nat.reduceEqDiff,tslice,tparts];exact rfl) rfl
    repeat exact sd T
    refine wa_ T (g:=?_)
    obtain ⟨v15,h3,hr⟩:=bs hr
    apply TO.cal (wn T) rfl goFn17 (figure_firstError_spec h3) rfl rfl rfl
    repeat exact sd T
    refine wa_ T (g:=?_)
    rcases ifs hr with ⟨h4,hr⟩|⟨h4,hr⟩
    · have T:=an h4 T
      refine wa_ T (g:=?_)
      cases hr
      refine ⟨.inr rfl,_,(ry T),?_⟩
      exact wk_ T [] rfl .nil
    · have T:=an h4 T
      refine wA T (g:=?_)
      obtain ⟨⟨v16,v17,v18⟩,h5,hr⟩:=bs hr
      try dsimp only at hr
      apply TO.cal (wn T) rfl goFn21 (figure_heard_definition_spec h5) rfl rfl rfl
      repeat exact sd T
      refine wA T (g:=?_)
      cases hr
      refine ⟨.inr rfl,_,(ry T),?_⟩
      exact wk_ T [] rfl .nil
  rfl

end Go.Rex

namespace Go.Rex
open Go.Proofs
open Go Go.Rex Go.RowKit
set_option maxRecDepth 100000

end Go.Rex

namespace Go.Rex
open Go.Proofs
open Go Go.Rex Go.RowKit
set_option maxRecDepth 100000
set_option maxHeartbeats 4000000
def y38:=an @ag22 <| an @ag24 <| an @ag26 <| an @ag3 <| an @ar27 <| an @cs24 <| an @cs26 <| an @cs3 <| an @cs37 <| an @fd24_1 <| an @fd26_0 <| an @fd26_1 <| an @fd26_2 <| an @fd37_0 <| an @fd37_1 <| an @ok24 <| an @ok26 <| an @ok3 <| an @ok37 <| an @so22 <| an @so27 <| an @so32 <| an @st26 <| an @zc26 <| an @zc37 <| @wi64_0a1
theorem top_TopLongerTail_law {v1 : Int} {v2 : (List Nat)} {v3 : Int} {v4 : Int} {v5 : Int} {v6 : Int} {v7 : Int} (hr : top_TopLongerTail v1 v2 v3 v4 v5 v6 v7 = some true) {Fz : Nat → Prop} {h : List Blk} {vs : List Value} (hfz : FZ Fz h) (hargs : VLs Fz h noL [.agg [.v (.int .i64 v1), .list 1 (v2.map e_f), .v (.int .i64 v3), .v (.int .i64 v4)], .agg [.v (.int .i64 v5), .v (.int .i64 v6)], .v (.int .i64 v7)] vs)
    {B lo : Nat} {D : Nat → Prop} {m : NMap} {w : World} {args' : List Value} (hrel : Rel B lo D m h w) (hlo : lo ≤ h.length) (hargs' : VRs D m vs args') : Calls Tryd.prog 3 ⟨args'⟩ w (fun e w'=>e = .returned (.bool true) ∧ Below w.heap.size w w'):=by
  unfold top_TopLongerTail at hr
  have T:=an y38 <| an @e_f.eq_1 <| @e_ii.eq_1
  refine law_tex follows awake_true Tryd.func3 rfl (tm0:=.agg [.v (.int .i64 v1),.list 1 (v2.map e_f),.v (.int .i64 v3),.v (.int .i64 v4)] :: .agg [.v (.int .i64 v5),.v (.int .i64 v6)] :: .v (.int .i64 v7) :: .junk :: .junk :: .junk :: .junk :: .junk :: .junk :: .junk :: .junk :: .junk :: .junk :: .junk :: .junk :: .junk :: .junk :: .junk :: .junk :: .junk :: .junk :: .junk :: .junk :: .junk :: .junk :: .junk :: .junk :: .junk :: .junk :: .junk :: .junk :: .junk :: .junk :: .junk :: .junk :: .junk :: .junk :: .junk :: .junk :: .junk :: .junk :: .junk :: .junk :: .junk :: .junk :: .junk :: .junk :: .junk :: .junk :: .junk :: .junk :: .junk :: .junk :: .junk :: .junk :: .junk :: .junk :: .junk :: .junk :: .junk :: .junk :: .junk :: .junk :: .junk :: .junk :: .junk :: .junk :: .junk :: .junk :: .junk :: .junk :: .junk :: .junk :: .junk :: .junk :: .junk :: .junk :: .junk :: .junk :: .junk :: .junk :: .junk :: .junk :: .junk :: .junk :: .junk :: .junk :: .junk :: .junk :: .junk :: .junk :: .junk :: .junk :: .junk :: .junk :: .junk :: .junk :: .junk :: .junk :: .junk :: .junk :: .junk :: .junk :: .junk :: .junk :: .junk :: .junk :: .junk :: .junk :: .junk :: .junk :: .junk :: .junk :: .junk :: .junk :: .junk :: .junk :: .junk :: .junk :: .junk :: .junk :: .junk :: .junk :: .junk :: .junk :: .junk :: .junk :: .junk :: .junk :: .junk :: .junk :: .junk :: .junk :: .junk :: .junk :: .junk :: .junk :: .junk :: .junk :: .junk :: .junk :: .junk :: .junk :: .junk :: .junk :: .junk :: .junk :: .junk :: .junk :: .junk :: .junk :: .junk :: .junk :: .junk :: .junk :: .junk :: .junk :: .junk :: .junk :: .junk :: .junk :: .junk :: .junk :: .junk :: .junk :: .junk :: .junk :: .junk :: .junk :: .junk :: .junk :: .junk :: .junk :: .junk :: .junk :: .junk :: .junk :: .junk :: .junk :: .junk :: .junk :: .junk :: .junk :: .junk :: .junk :: .junk :: .junk :: .junk :: .junk :: .junk :: .junk :: .junk :: .junk :: .junk :: .junk :: .junk :: .junk :: .junk :: .junk :: .junk :: .junk :: .junk :: .junk :: .junk :: .junk :: .junk :: .junk :: .junk :: .junk :: .junk :: .junk :: []) (by simp [Tryd.f3]<;>exact rfl) ?_ hfz hargs hrel hlo hargs'
  refine wb_ T (g:=?_)
  apply TO.cal (wn T) rfl goFn4 Spec.awake rfl rfl rfl
  repeat exact sd T
  refine wa_ T (g:=?_)
  apply TO.pop1 (wn T) (pop_not rfl)
  repeat exact sd T
  refine wA T (g:=?_)
  obtain ⟨v9,h1,hr⟩:=bs hr
  apply TO.cal (wn T) rfl goFn5 (Spec.ov (law05_Few_spec h1) (by decide)) rfl rfl rfl
  repeat exact sd T
  refine wa_ T (g:=?_)
  apply TO.pop1 (wn T) (pop_not rfl)
  repeat exact sd T
  refine wa_ T (g:=?_)
  rcases ifs hr with ⟨h2,hr⟩|⟨h2,hr⟩
  · repeat (first|(with_reducible first|refine mv ?_|refine TO.nil ?_)|((with_reducible first|apply TO.ia|apply TO.ld);(repeat (focus (show _ = _;first|exact k1 rfl|exact k2 rfl|(simp only [zz,y38,e_f,e_ii,Nat.reduceAdd,Nat.reduceMul,Nat.reduceLeDiff,Nat.reduceEqDiff,tindexAddr,z5,Int.reduceToNat,Int.reduceLE,Int.reduceLT,Int.cast_ofNat_Int,tload,rowOf,partT,List.getElem?_map,h2]<;>exact rfl)|exact rfl)));(with_reducible apply TO.here))|((with_reducible apply TX.region);(focus (simp only [zl]<;>exact rfl));(focus rfl);(try dsimp only))|fail)
    obtain ⟨v10,h3,hr⟩:=bs hr
    have T:=an h2 T
    apply TO.cal (wn T) rfl goFn6 (Spec.ov (base_Within_spec h3) (by decide)) rfl rfl rfl
    repeat exact sd T
    refine wa_ T (g:=?_)
    apply TO.pop1 (wn T) (pop_not rfl)
    repeat exact sd T
    refine wa_ T (g:=?_)
    rcases ifs hr with ⟨h4,hr⟩|⟨h4,hr⟩
    · repeat (first|(with_reducible first|refine mv ?_|refine TO.nil ?_)|((with_reducible first|apply TO.ia|apply TO.ld);(repeat (focus (show _ = _;first|exact k1 rfl|exact k2 rfl|(simp only [zz,y38,e_f,e_ii,Nat.reduceAdd,Nat.reduceMul,Nat.reduceLeDiff,Nat.reduceEqDiff,tindexAddr,z5,Int.reduceToNat,Int.reduceLE,Int.reduceLT,Int.cast_ofNat_Int,tload,rowOf,partT,List.getElem?_map,h2,h4]<;>exact rfl)|exact rfl)));(with_reducible apply TO.here))|((with_reducible apply TX.region);(focus (simp only [zl]<;>exact rfl));(focus rfl);(try dsimp only))|fail)
      obtain ⟨v11,h5,hr⟩:=bs hr
      have T:=an h4 T
      apply TO.cal (wn T) rfl goFn6 (Spec.ov (base_Within_spec h5) (by decide)) rfl rfl rfl
      repeat exact sd T
      refine wa_ T (g:=?_)
      apply TO.pop1 (wn T) (pop_not rfl)
      repeat exact sd T
      refine wa_ T (g:=?_)
      rcases ifs hr with ⟨h6,hr⟩|⟨h6,hr⟩
      · have T:=an h6 T
        refine wA T (g:=?_)
        obtain ⟨v12,h7,hr⟩:=bs hr
        apply TO.cal (wn T) rfl goFn6 (Spec.ov (base_Within_spec h7) (by decide)) rfl rfl rfl
        repeat exact sd T
        refine wa_ T (g:=?_)
        apply TO.pop1 (wn T) (pop_not rfl)
        repeat exact sd T
        refine wa_ T (g:=?_)
        rcases ifs hr with ⟨h8,hr⟩|⟨h8,hr⟩
        · have T:=an h8 T
          refine wA T (g:=?_)
          obtain ⟨v13,h9,hr⟩:=bs hr
          apply TO.cal (wn T) rfl goFn6 (Spec.ov (base_Within_spec h9) (by decide)) rfl rfl rfl
          repeat exact sd T
          refine wa_ T (g:=?_)
          apply TO.pop1 (wn T) (pop_not rfl)
          repeat exact sd T
          refine wa_ T (g:=?_)
          rcases ifs hr with ⟨h10,hr⟩|⟨h10,hr⟩
          · have T:=an h10 T
            refine wa_ T (g:=?_)
            obtain ⟨v14,h11,hr⟩:=bs hr
            apply TO.cal (wn T) rfl goFn6 (Spec.ov (base_Within_spec h11) (by decide)) rfl rfl rfl
            repeat exact sd T
            refine wa_ T (g:=?_)
            apply TO.pop1 (wn T) (pop_not rfl)
            repeat exact sd T
            refine wa_ T (g:=?_)
            rcases ifs hr with ⟨h12,hr⟩|⟨h12,hr⟩
            · have T:=an h12 T
              refine wA T (g:=?_)
              obtain ⟨⟨v15,v16⟩,h13,hr⟩:=bs hr
              try dsimp only at hr
              apply TD.cal (wn T) rfl goFn7 (Spec.ov (base_CopyResponse_spec h13) (by decide)) rfl rfl rfl
              repeat exact sd T
              repeat (first|(with_reducible first|refine mv ?_|refine TD.nil ?_)|((with_reducible first|apply TD.fa|apply TD.ld|apply TD.ia|apply TD.bin|apply TD.bld|apply TD.al|apply TD.sv);(repeat (focus (show _ = _;first|exact k1 rfl|exact k2 rfl|(simp only [zz,y38,e_f,e_ii,Nat.reduceAdd,Nat.reduceMul,Nat.reduceLeDiff,Nat.reduceEqDiff,tfieldAddr,tload,rowOf,partT,List.getElem?_map,tindexAddr,z5,Int.reduceToNat,Int.reduceLE,Int.reduceLT,Int.cast_ofNat_Int,tbuild,tfill,h2,h4,h6,h8,h10,h12]<;>exact rfl)|exact rfl)));(with_reducible refine TD.here ?_))|((with_reducible apply TX.drawn);(focus decide +kernel);(focus (simp only [zl]<;>exact rfl));(focus exact rfl);(try dsimp only))|fail)
              obtain ⟨⟨v17,v18⟩,h14,hr⟩:=bs hr
              try dsimp only at hr
              apply TD.cal (wn T) rfl goFn7 (Spec.ov (base_CopyResponse_spec h14) (by decide)) rfl rfl rfl
              repeat exact sd T
              refine wA T (g:=?_)
              obtain ⟨⟨v19,v20⟩,h15,hr⟩:=bs hr
              try dsimp only at hr
              apply TO.lok (wn T) rfl goFn8 (Spec.ov (figure_SumsWithin_spec h15) (by decide)) (vw T) rfl rfl (by simp [clTB,cl,e_f,e_i,e_ii,e_iii])
              repeat exact sd T
              refine wA T (g:=?_)
              obtain ⟨⟨v21,v22⟩,h16,hr⟩:=bs hr
              try dsimp only at hr
              apply TO.lok (wn T) rfl goFn8 (Spec.ov (figure_SumsWithin_spec h16) (by decide)) (vw T) rfl rfl (by simp [clTB,cl,e_f,e_i,e_ii,e_iii])
              repeat exact sd T
              refine wa_ T (g:=?_)
              rcases ifs hr with ⟨h17,hr⟩|⟨h17,hr⟩
              · have T:=an h17 T
                refine wa_ T (g:=?_)
                exact lv T hr
              · have T:=an h17 T
                refine wa_ T (g:=?_)
                rcases ifs hr with ⟨h18,hr⟩|⟨h18,hr⟩
                · have T:=an h18 T
                  refine wa_ T (g:=?_)
                  exact lv T hr
                · have T:=an h18 T
                  refine wc_ T (g:=?_)
                  rcases ifs hr with ⟨h19,hr⟩|⟨h19,hr⟩
                  · have T:=an h19 T
                    refine wa_ T (g:=?_)
                    exact lv T hr
                  · have T:=an h19 T
                    refine wC T (g:=?_)
                    rcases ifs hr with ⟨h20,hr⟩|⟨h20,hr⟩
                    · have T:=an h20 T
                      refine wa_ T (g:=?_)
                      exact lv T hr
                    · have T:=an h20 T
                      refine wa_ T (g:=?_)
                      obtain ⟨v32,h31,hr⟩:=bs hr
                      refine TX.loopE (step:=top_TopLongerTail_l1 v19 v21) (x:=0) h31 (fun v23=>⟨.junk :: .junk :: .v (.int .i64 v7) :: .junk :: .junk :: .junk :: .junk :: .lptr 0 0 0 :: .lptr 2 0 0 :: .lsl 4 0 v19.length :: .junk :: .lsl 5 0 v21.length :: .junk :: .v (.int .i64 v23) :: .junk :: .junk :: .junk :: .junk :: .junk :: .junk :: .junk :: .junk :: .junk :: .junk :: .junk :: .junk :: .junk :: .junk :: .junk :: .junk :: .junk :: .junk :: .junk :: .junk :: .junk :: .junk :: .junk :: .junk :: .junk :: .junk :: .junk :: .junk :: .junk :: .junk :: .junk :: .junk :: .junk :: .junk :: .junk :: .junk :: .junk :: .junk :: .junk :: .junk :: .junk :: .junk :: .junk :: .junk :: .junk :: .junk :: .junk :: .junk :: .junk :: .junk :: .junk :: .junk :: .junk :: .junk :: .junk :: .junk :: .junk :: .junk :: .junk :: .junk :: .junk :: .junk :: .junk :: .junk :: .junk :: .junk :: .junk :: .junk :: .junk :: .junk :: .junk :: .junk :: .junk :: .junk :: .junk :: .junk :: .junk :: .junk :: .junk :: .junk :: .junk :: .junk :: .junk :: .junk :: .junk :: .junk :: .junk :: .junk :: .junk :: .junk :: .junk :: .junk :: .junk :: .junk :: .junk :: .junk :: .junk :: .junk :: .junk :: .junk :: .junk :: .junk :: .junk :: .junk :: .junk :: .junk :: .junk :: .junk :: .junk :: .junk :: .junk :: .junk :: .junk :: .junk :: .junk :: .junk :: .junk :: .junk :: .junk :: .junk :: .junk :: .junk :: .junk :: .junk :: .junk :: .junk :: .junk :: .junk :: .junk :: .junk :: .junk :: .junk :: .junk :: .junk :: .junk :: .junk :: .junk :: .junk :: .junk :: .junk :: .junk :: .junk :: .junk :: .junk :: .junk :: .junk :: .junk :: .junk :: .junk :: .junk :: .junk :: .junk :: .junk :: .junk :: .junk :: .junk :: .junk :: .junk :: .junk :: .junk :: .junk :: .junk :: .junk :: .junk :: .junk :: .junk :: .junk :: .junk :: .junk :: .junk :: .junk :: .junk :: .junk :: .junk :: .junk :: .junk :: .junk :: .junk :: .junk :: .junk :: .junk :: .junk :: .junk :: .junk :: .junk :: .junk :: .junk :: .junk :: .junk :: .junk :: .junk :: .junk :: .junk :: .junk :: .junk :: .junk :: .junk :: [],[.var [.v (.int .i64 v15),.lsl 1 0 v16.length,.v (.int .i64 (IntKind.i64.wrap (v3 + v5))),.v (.int .i64 (IntKind.i64.wrap (v4 + v6)))],.rows 1 (v16.map e_f),.var [.v (.int .i64 v17),.lsl 3 0 v18.length,.v (.int .i64 v3),.v (.int .i64 v4)],.rows 1 (v18.map e_f),.rows 2 (v19.map e_ii),.rows 2 (v21.map e_ii)]⟩) (fun e=>match e with|(.inl _)=>(.ret,⟨.junk :: .junk :: .junk :: .junk :: .junk :: .junk :: .v (.bool false) :: .junk :: .junk :: .junk :: .junk :: .junk :: .junk :: .junk :: .junk :: .junk :: .junk :: .junk :: .junk :: .junk :: .junk :: .junk :: .junk :: .junk :: .junk :: .junk :: .junk :: .junk :: .junk :: .junk :: .junk :: .junk :: .junk :: .junk :: .junk :: .junk :: .junk :: .junk :: .junk :: .junk :: .junk :: .junk :: .junk :: .junk :: .junk :: .junk :: .junk :: .junk :: .junk :: .junk :: .junk :: .junk :: .junk :: .junk :: .junk :: .junk :: .junk :: .junk :: .junk :: .junk :: .junk :: .junk :: .junk :: .junk :: .junk :: .junk :: .junk :: .junk :: .junk :: .junk :: .junk :: .junk :: .junk :: .junk :: .junk :: .junk :: .junk :: .junk :: .junk :: .junk :: .junk :: .junk :: .junk :: .junk :: .junk :: .junk :: .junk :: .junk :: .junk :: .junk :: .junk :: .junk :: .junk :: .junk :: .junk :: .junk :: .junk :: .junk :: .junk :: .junk :: .junk :: .junk :: .junk :: .junk :: .junk :: .junk :: .junk :: .junk :: .junk :: .junk :: .junk :: .junk :: .junk :: .junk :: .junk :: .junk :: .junk :: .junk :: .junk :: .junk :: .junk :: .junk :: .junk :: .junk :: .junk :: .junk :: .junk :: .junk :: .junk :: .junk :: .junk :: .junk :: .junk :: .junk :: .junk :: .junk :: .junk :: .junk :: .junk :: .junk :: .junk :: .junk :: .junk :: .junk :: .junk :: .junk :: .junk :: .junk :: .junk :: .junk :: .junk :: .junk :: .junk :: .junk :: .junk :: .junk :: .junk :: .junk :: .junk :: .junk :: .junk :: .junk :: .junk :: .junk :: .junk :: .junk :: .junk :: .junk :: .junk :: .junk :: .junk :: .junk :: .junk :: .junk :: .junk :: .junk :: .junk :: .junk :: .junk :: .junk :: .junk :: .junk :: .junk :: .junk :: .junk :: .junk :: .junk :: .junk :: .junk :: .junk :: .junk :: .junk :: .junk :: .junk :: .junk :: .junk :: .junk :: .junk :: .junk :: .junk :: .junk :: .junk :: .junk :: .junk :: .junk :: .junk :: .junk :: .junk :: .junk :: .junk :: .junk :: [],[]⟩)|(.inr _)=>(.exit 0,⟨.junk :: .junk :: .v (.int .i64 v7) :: .junk :: .junk :: .junk :: .junk :: .lptr 0 0 0 :: .lptr 2 0 0 :: .junk :: .junk :: .junk :: .junk :: .junk :: .junk :: .junk :: .junk :: .junk :: .junk :: .junk :: .junk :: .junk :: .junk :: .junk :: .junk :: .junk :: .junk :: .junk :: .junk :: .junk :: .junk :: .junk :: .junk :: .junk :: .junk :: .junk :: .junk :: .junk :: .junk :: .junk :: .junk :: .junk :: .junk :: .junk :: .junk :: .junk :: .junk :: .junk :: .junk :: .junk :: .junk :: .junk :: .junk :: .junk :: .junk :: .junk :: .junk :: .junk :: .junk :: .junk :: .junk :: .junk :: .junk :: .junk :: .junk :: .junk :: .junk :: .junk :: .junk :: .junk :: .junk :: .junk :: .junk :: .junk :: .junk :: .junk :: .junk :: .junk :: .junk :: .junk :: .junk :: .junk :: .junk :: .junk :: .junk :: .junk :: .junk :: .junk :: .junk :: .junk :: .junk :: .junk :: .junk :: .junk :: .junk :: .junk :: .junk :: .junk :: .junk :: .junk :: .junk :: .junk :: .junk :: .junk :: .junk :: .junk :: .junk :: .junk :: .junk :: .junk :: .junk :: .junk :: .junk :: .junk :: .junk :: .junk :: .junk :: .junk :: .junk :: .junk :: .junk :: .junk :: .junk :: .junk :: .junk :: .junk :: .junk :: .junk :: .junk :: .junk :: .junk :: .junk :: .junk :: .junk :: .junk :: .junk :: .junk :: .junk :: .junk :: .junk :: .junk :: .junk :: .junk :: .junk :: .junk :: .junk :: .junk :: .junk :: .junk :: .junk :: .junk :: .junk :: .junk :: .junk :: .junk :: .junk :: .junk :: .junk :: .junk :: .junk :: .junk :: .junk :: .junk :: .junk :: .junk :: .junk :: .junk :: .junk :: .junk :: .junk :: .junk :: .junk :: .junk :: .junk :: .junk :: .junk :: .junk :: .junk :: .junk :: .junk :: .junk :: .junk :: .junk :: .junk :: .junk :: .junk :: .junk :: .junk :: .junk :: .junk :: .junk :: .junk :: .junk :: .junk :: .junk :: .junk :: .junk :: .junk :: .junk :: .junk :: .junk :: .junk :: .junk :: .junk :: .junk :: .junk :: .junk :: .junk :: .junk :: .junk :: .junk :: [],[.var [.v (.int .i64 v15),.lsl 1 0 v16.length,.v (.int .i64 (IntKind.i64.wrap (v3 + v5))),.v (.int .i64 (IntKind.i64.wrap (v4 + v6)))],.rows 1 (v16.map e_f),.var [.v (.int .i64 v17),.lsl 3 0 v18.length,.v (.int .i64 v3),.v (.int .i64 v4)],.rows 1 (v18.map e_f)]⟩)) ?_ ?_ ?_ ?_
                      · rintro v23 v0 hr
                        dsimp only [top_TopLongerTail_l1] at hr
                        try dsimp only
                        refine wc_ T (g:=?_)
                        rcases ifs hr with ⟨h26,hr⟩|⟨h26,hr⟩
                        · have T:=an h26 T
                          refine wa_ T (g:=?_)
                          obtain ⟨⟨v28,v29⟩,h27,hr⟩:=bs hr
                          try dsimp only at hr
                          have T:=an (gx e_ii h27) T
                          refine wA T (g:=?_)
                          obtain ⟨⟨v30,v31⟩,h28,hr⟩:=bs hr
                          try dsimp only at hr
                          have T:=an (gx e_ii h28) T
                          refine wA T (g:=?_)
                          rcases ifs hr with ⟨h29,hr⟩|⟨h29,hr⟩
                          · have T:=an h29 T
                            refine wa_ T (g:=?_)
                            cases hr
                            refine ⟨rfl,?_⟩
                            exact wk_ T [] rfl .nil
                          · have T:=an h29 T
                            refine wA T (g:=?_)
                            rcases ifs hr with ⟨h30,hr⟩|⟨h30,hr⟩
                            · have T:=an h30 T
                              refine wa_ T (g:=?_)
                              cases hr
                              refine ⟨rfl,?_⟩
                              exact wk_ T [] rfl .nil
                            · have T:=an h30 T
                              refine wa_ T (g:=?_)
                              cases hr
                              refine ⟨rfl,?_⟩
                              exact wk_ T [some 0,some 1,some 2,some 3,some 4,some 5] rfl (rv (.rows (rv (.rows (.rows (.rows .nil rfl rfl) rfl rfl) rfl rfl) rfl) rfl rfl) rfl)
                        · have T:=an h26 T
                          refine wa_ T (g:=?_)
                          cases hr
                          refine ⟨rfl,?_⟩
                          exact wk_ T [some 0,some 1,some 2,some 3] rfl (rv (.rows (rv (.rows .nil rfl rfl) rfl) rfl rfl) rfl)
                      · intro e h;rcases e with _|e<;>cases h
                      · try dsimp only
                        rcases v32 with _|_
                        · try dsimp only at hr
                          try dsimp only
                          refine wa_ T (g:=?_)
                          exact lv T hr
                        · try dsimp only at hr
                          try dsimp only
                          refine wa_ T (g:=?_)
                          obtain ⟨v46,h46,hr⟩:=bs hr
                          refine TX.loopE (step:=top_TopLongerTail_l2 v3 v4 v5 v6 v15 v16 v17 v18) (x:=0) h46 (fun v33=>⟨.junk :: .junk :: .v (.int .i64 v7) :: .junk :: .junk :: .junk :: .junk :: .lptr 0 0 0 :: .lptr 2 0 0 :: .junk :: .junk :: .junk :: .junk :: .junk :: .v (.int .i64 v33) :: .junk :: .junk :: .junk :: .junk :: .junk :: .junk :: .junk :: .junk :: .junk :: .junk :: .junk :: .junk :: .junk :: .junk :: .junk :: .junk :: .junk :: .junk :: .junk :: .junk :: .junk :: .junk :: .junk :: .junk :: .junk :: .junk :: .junk :: .junk :: .junk :: .junk :: .junk :: .junk :: .junk :: .junk :: .junk :: .junk :: .junk :: .junk :: .junk :: .junk :: .junk :: .junk :: .junk :: .junk :: .junk :: .junk :: .junk :: .junk :: .junk :: .junk :: .junk :: .junk :: .junk :: .junk :: .junk :: .junk :: .junk :: .junk :: .junk :: .junk :: .junk :: .junk :: .junk :: .junk :: .junk :: .junk :: .junk :: .junk :: .junk :: .junk :: .junk :: .junk :: .junk :: .junk :: .junk :: .junk :: .junk :: .junk :: .junk :: .junk :: .junk :: .junk :: .junk :: .junk :: .junk :: .junk :: .junk :: .junk :: .junk :: .junk :: .junk :: .junk :: .junk :: .junk :: .junk :: .junk :: .junk :: .junk :: .junk :: .junk :: .junk :: .junk :: .junk :: .junk :: .junk :: .junk :: .junk :: .junk :: .junk :: .junk :: .junk :: .junk :: .junk :: .junk :: .junk :: .junk :: .junk :: .junk :: .junk :: .junk :: .junk :: .junk :: .junk :: .junk :: .junk :: .junk :: .junk :: .junk :: .junk :: .junk :: .junk :: .junk :: .junk :: .junk :: .junk :: .junk :: .junk :: .junk :: .junk :: .junk :: .junk :: .junk :: .junk :: .junk :: .junk :: .junk :: .junk :: .junk :: .junk :: .junk :: .junk :: .junk :: .junk :: .junk :: .junk :: .junk :: .junk :: .junk :: .junk :: .junk :: .junk :: .junk :: .junk :: .junk :: .junk :: .junk :: .junk :: .junk :: .junk :: .junk :: .junk :: .junk :: .junk :: .junk :: .junk :: .junk :: .junk :: .junk :: .junk :: .junk :: .junk :: .junk :: .junk :: .junk :: .junk :: .junk :: .junk :: .junk :: .junk :: .junk :: .junk :: .junk :: .junk :: .junk :: .junk :: .junk :: [],[.var [.v (.int .i64 v15),.lsl 1 0 v16.length,.v (.int .i64 (IntKind.i64.wrap (v3 + v5))),.v (.int .i64 (IntKind.i64.wrap (v4 + v6)))],.rows 1 (v16.map e_f),.var [.v (.int .i64 v17),.lsl 3 0 v18.length,.v (.int .i64 v3),.v (.int .i64 v4)],.rows 1 (v18.map e_f)]⟩) (fun e=>match e with|(.inl _)=>(.ret,⟨.junk :: .junk :: .junk :: .junk :: .junk :: .junk :: .v (.bool false) :: .junk :: .junk :: .junk :: .junk :: .junk :: .junk :: .junk :: .junk :: .junk :: .junk :: .junk :: .junk :: .junk :: .junk :: .junk :: .junk :: .junk :: .junk :: .junk :: .junk :: .junk :: .junk :: .junk :: .junk :: .junk :: .junk :: .junk :: .junk :: .junk :: .junk :: .junk :: .junk :: .junk :: .junk :: .junk :: .junk :: .junk :: .junk :: .junk :: .junk :: .junk :: .junk :: .junk :: .junk :: .junk :: .junk :: .junk :: .junk :: .junk :: .junk :: .junk :: .junk :: .junk :: .junk :: .junk :: .junk :: .junk :: .junk :: .junk :: .junk :: .junk :: .junk :: .junk :: .junk :: .junk :: .junk :: .junk :: .junk :: .junk :: .junk :: .junk :: .junk :: .junk :: .junk :: .junk :: .junk :: .junk :: .junk :: .junk :: .junk :: .junk :: .junk :: .junk :: .junk :: .junk :: .junk :: .junk :: .junk :: .junk :: .junk :: .junk :: .junk :: .junk :: .junk :: .junk :: .junk :: .junk :: .junk :: .junk :: .junk :: .junk :: .junk :: .junk :: .junk :: .junk :: .junk :: .junk :: .junk :: .junk :: .junk :: .junk :: .junk :: .junk :: .junk :: .junk :: .junk :: .junk :: .junk :: .junk :: .junk :: .junk :: .junk :: .junk :: .junk :: .junk :: .junk :: .junk :: .junk :: .junk :: .junk :: .junk :: .junk :: .junk :: .junk :: .junk :: .junk :: .junk :: .junk :: .junk :: .junk :: .junk :: .junk :: .junk :: .junk :: .junk :: .junk :: .junk :: .junk :: .junk :: .junk :: .junk :: .junk :: .junk :: .junk :: .junk :: .junk :: .junk :: .junk :: .junk :: .junk :: .junk :: .junk :: .junk :: .junk :: .junk :: .junk :: .junk :: .junk :: .junk :: .junk :: .junk :: .junk :: .junk :: .junk :: .junk :: .junk :: .junk :: .junk :: .junk :: .junk :: .junk :: .junk :: .junk :: .junk :: .junk :: .junk :: .junk :: .junk :: .junk :: .junk :: .junk :: .junk :: .junk :: .junk :: .junk :: .junk :: .junk :: .junk :: .junk :: .junk :: .junk :: .junk :: .junk :: .junk :: [],[]⟩)|(.inr _)=>(.exit 2,⟨.junk :: .junk :: .v (.int .i64 v7) :: .junk :: .junk :: .junk :: .junk :: .lptr 0 0 0 :: .lptr 2 0 0 :: .junk :: .junk :: .junk :: .junk :: .junk :: .junk :: .junk :: .junk :: .junk :: .junk :: .junk :: .junk :: .junk :: .junk :: .junk :: .junk :: .junk :: .junk :: .junk :: .junk :: .junk :: .junk :: .junk :: .junk :: .junk :: .junk :: .junk :: .junk :: .junk :: .junk :: .junk :: .junk :: .junk :: .junk :: .junk :: .junk :: .junk :: .junk :: .junk :: .junk :: .junk :: .junk :: .junk :: .junk :: .junk :: .junk :: .junk :: .junk :: .junk :: .junk :: .junk :: .junk :: .junk :: .junk :: .junk :: .junk :: .junk :: .junk :: .junk :: .junk :: .junk :: .junk :: .junk :: .junk :: .junk :: .junk :: .junk :: .junk :: .junk :: .junk :: .junk :: .junk :: .junk :: .junk :: .junk :: .junk :: .junk :: .junk :: .junk :: .junk :: .junk :: .junk :: .junk :: .junk :: .junk :: .junk :: .junk :: .junk :: .junk :: .junk :: .junk :: .junk :: .junk :: .junk :: .junk :: .junk :: .junk :: .junk :: .junk :: .junk :: .junk :: .junk :: .junk :: .junk :: .junk :: .junk :: .junk :: .junk :: .junk :: .junk :: .junk :: .junk :: .junk :: .junk :: .junk :: .junk :: .junk :: .junk :: .junk :: .junk :: .junk :: .junk :: .junk :: .junk :: .junk :: .junk :: .junk :: .junk :: .junk :: .junk :: .junk :: .junk :: .junk :: .junk :: .junk :: .junk :: .junk :: .junk :: .junk :: .junk :: .junk :: .junk :: .junk :: .junk :: .junk :: .junk :: .junk :: .junk :: .junk :: .junk :: .junk :: .junk :: .junk :: .junk :: .junk :: .junk :: .junk :: .junk :: .junk :: .junk :: .junk :: .junk :: .junk :: .junk :: .junk :: .junk :: .junk :: .junk :: .junk :: .junk :: .junk :: .junk :: .junk :: .junk :: .junk :: .junk :: .junk :: .junk :: .junk :: .junk :: .junk :: .junk :: .junk :: .junk :: .junk :: .junk :: .junk :: .junk :: .junk :: .junk :: .junk :: .junk :: .junk :: .junk :: .junk :: .junk :: .junk :: .junk :: .junk :: .junk :: .junk :: .junk :: [],[.var [.v (.int .i64 v15),.lsl 1 0 v16.length,.v (.int .i64 (IntKind.i64.wrap (v3 + v5))),.v (.int .i64 (IntKind.i64.wrap (v4 + v6)))],.rows 1 (v16.map e_f),.var [.v (.int .i64 v17),.lsl 3 0 v18.length,.v (.int .i64 v3),.v (.int .i64 v4)],.rows 1 (v18.map e_f)]⟩)) ?_ ?_ ?_ ?_
                          · rintro v33 v0 hr
                            dsimp only [top_TopLongerTail_l2] at hr
                            try dsimp only
                            refine wa_ T (g:=?_)
                            rcases ifs hr with ⟨h39,hr⟩|⟨h39,hr⟩
                            · have T:=an h39 T
                              refine wA T (g:=?_)
                              obtain ⟨⟨v40,v41,v42⟩,h40,hr⟩:=bs hr
                              try dsimp only at hr
                              apply TO.lok (wn T) rfl goFn9 (Spec.ov (figure_DecayWithin_spec h40) (by decide)) (vw T) rfl rfl (by simp [clTB,cl,e_f,e_i,e_ii,e_iii])
                              repeat exact sd T
                              refine wA T (g:=?_)
                              obtain ⟨⟨v43,v44,v45⟩,h41,hr⟩:=bs hr
                              try dsimp only at hr
                              apply TO.lok (wn T) rfl goFn9 (Spec.ov (figure_DecayWithin_spec h41) (by decide)) (vw T) rfl rfl (by simp [clTB,cl,e_f,e_i,e_ii,e_iii])
                              repeat exact sd T
                              refine wa_ T (g:=?_)
                              rcases ifs hr with ⟨h42,hr⟩|⟨h42,hr⟩
                              · have T:=an h42 T
                                refine wa_ T (g:=?_)
                                rcases ifs hr with ⟨h43,hr⟩|⟨h43,hr⟩
                                · have T:=an h43 T
                                  refine wa_ T (g:=?_)
                                  cases hr
                                  refine ⟨rfl,?_⟩
                                  exact wk_ T [] rfl .nil
                                · have T:=an h43 T
                                  refine wA T (g:=?_)
                                  rcases ifs hr with ⟨h44,hr⟩|⟨h44,hr⟩
                                  · have T:=an h44 T
                                    refine wa_ T (g:=?_)
                                    cases hr
                                    refine ⟨rfl,?_⟩
                                    exact wk_ T [] rfl .nil
                                  · have T:=an h44 T
                                    refine wA T (g:=?_)
                                    rcases ifs hr with ⟨h45,hr⟩|⟨h45,hr⟩
                                    · have T:=an h45 T
                                      refine wa_ T (g:=?_)
                                      cases hr
                                      refine ⟨rfl,?_⟩
                                      exact wk_ T [] rfl .nil
                                    · have T:=an h45 T
                                      refine wa_ T (g:=?_)
                                      cases hr
                                      refine ⟨rfl,?_⟩
                                      exact wk_ T [some 0,some 1,some 2,some 3] rfl (rv (.rows (rv (.rows .nil rfl rfl) rfl) rfl rfl) rfl)
                              · have T:=an h42 T
                                refine wa_ T (g:=?_)
                                cases hr
                                refine ⟨rfl,?_⟩
                                exact wk_ T [some 0,some 1,some 2,some 3] rfl (rv (.rows (rv (.rows .nil rfl rfl) rfl) rfl rfl) rfl)
                            · have T:=an h39 T
                              refine wa_ T (g:=?_)
                              cases hr
                              refine ⟨rfl,?_⟩
                              exact wk_ T [some 0,some 1,some 2,some 3] rfl (rv (.rows (rv (.rows .nil rfl rfl) rfl) rfl rfl) rfl)
                          · intro e h;rcases e with _|e<;>cases h
                          · try dsimp only
                            rcases v46 with _|_
                            · try dsimp only at hr
                              try dsimp only
                              refine wa_ T (g:=?_)
                              exact lv T hr
                            · try dsimp only at hr
                              try dsimp only
                              refine wA T (g:=?_)
                              obtain ⟨⟨v47,v48,v49⟩,h47,hr⟩:=bs hr
                              try dsimp only at hr
                              apply TO.lok (wn T) rfl goFn10 (Spec.ov (figure_DefinitionWithin_spec h47) (by decide)) (vw T) rfl rfl (by simp [clTB,cl,e_f,e_i,e_ii,e_iii])
                              repeat exact sd T
                              refine wA T (g:=?_)
                              obtain ⟨⟨v50,v51,v52⟩,h48,hr⟩:=bs hr
                              try dsimp only at hr
                              apply TO.lok (wn T) rfl goFn10 (Spec.ov (figure_DefinitionWithin_spec h48) (by decide)) (vw T) rfl rfl (by simp [clTB,cl,e_f,e_i,e_ii,e_iii])
                              repeat exact sd T
                              refine wa_ T (g:=?_)
                              rcases ifs hr with ⟨h49,hr⟩|⟨h49,hr⟩
                              · have T:=an h49 T
                                refine wa_ T (g:=?_)
                                exact lv T hr
                              · have T:=an h49 T
                                refine wa_ T (g:=?_)
                                rcases ifs hr with ⟨h50,hr⟩|⟨h50,hr⟩
                                · have T:=an h50 T
                                  refine wA T (g:=?_)
                                  rcases ifs hr with ⟨h51,hr⟩|⟨h51,hr⟩
                                  · have T:=an h51 T
                                    refine wA T (g:=?_)
                                    exact lv T hr
                                  · have T:=an h51 T
                                    refine wa_ T (g:=?_)
                                    exact lv T hr
                                · have T:=an h50 T
                                  refine wa_ T (g:=?_)
                                  exact lv T hr
                          · try dsimp only
                            exact wk_ T [some 0,some 1,some 2,some 3] rfl (rv (.rows (rv (.rows .nil rfl rfl) rfl) rfl rfl) rfl)
                      · try dsimp only
                        exact wk_ T [some 1,some 0,some 3,some 2,some 4,some 5] rfl (rv (.rows (rv (.rows (.rows (.rows .nil rfl rfl) rfl rfl) rfl rfl) rfl) rfl rfl) rfl)
            · have T:=an h12 T
              refine wa_ T (g:=?_)
              exact lv T hr
          · have T:=an h10 T
            refine wa_ T (g:=?_)
            exact lv T hr
        · have T:=an h8 T
          refine wa_ T (g:=?_)
          exact lv T hr
      · have T:=an h6 T
        refine wa_ T (g:=?_)
        exact lv T hr
    · have T:=an h4 T
      refine wa_ T (g:=?_)
      exact lv T hr
  · have T:=an h2 T
    refine wa_ T (g:=?_)
    exact lv T hr

end Go.Rex
