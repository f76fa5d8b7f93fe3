/- Proofs that the program's functions do what these plain functions say. -/
import Derived.Test.YtlhanhijfdnjfaaGreatDoorGB
import Derived.Test.YtlhanhijfdnjfaaGreatDoorS
import Derived.Test.YtlhanhijfdnjfaaGreatDoorCZ
set_option linter.unusedSimpArgs false
set_option linter.unusedVariables false
set_option linter.defProp false
namespace Go.Rex
open Go.Proofs
open Go Go.Rex Go.RowKit
set_option maxRecDepth 100000
set_option maxHeartbeats 200000
def y1:=an @ag22 <| an @fd24_1 <| @so22
theorem law05_Few_spec {v1 : Int} {v2 : (List Nat)} {v3 : Bool} (hr : law05_Few v1 v2 = some (v3)) : Spec (lim Tryz.prog) 12 [.agg [.v (.int .i64 v1),.list 1 (v2.map e_f)]] ⟨[.v (.bool v3)],[]⟩:=by
  unfold law05_Few at hr
  have T:=an y1 <| @e_f.eq_1
  apply Spec.fn Tryz.func12 rfl
  focus (simp [Tryz.f12]<;>exact rfl)
  focus
    refine wD T (g:=?_)
    rcases ifs hr with ⟨h1,hr⟩|⟨h1,hr⟩
    · have T:=an h1 T
      refine wa_ T (g:=?_)
      cases hr
      refine ⟨.inr rfl,_,(ry T),?_⟩
      exact wk_ T [] rfl .nil
    · have T:=an h1 T
      refine wC T (g:=?_)
      rcases ifs hr with ⟨h2,hr⟩|⟨h2,hr⟩
      · have T:=an h2 T
        refine wC T (g:=?_)
        cases hr
        refine ⟨.inr rfl,_,(ry T),?_⟩
        exact wk_ T [] rfl .nil
      · have T:=an h2 T
        refine wa_ T (g:=?_)
        cases hr
        refine ⟨.inr rfl,_,(ry T),?_⟩
        exact wk_ T [] rfl .nil
  rfl

end Go.Rex

namespace Go.Rex
open Go.Proofs
open Go Go.Rex Go.RowKit
set_option maxRecDepth 100000
set_option maxHeartbeats 200000
def y2:=an @ag22 <| an @ag24 <| an @ag3 <| an @by99 <| an @cs24 <| an @cs99 <| an @fd24_0 <| an @fd24_1 <| an @ni22 <| an @ok24 <| an @so22 <| an @st24 <| an @zc24 <| @zc99
theorem base_CopyResponse_spec {v1 : Int} {v2 : (List Nat)} {v3 : Int} {v4 : (List Nat)} (hr : base_CopyResponse v1 v2 = some (v3,v4)) : Spec (lim Tryz.prog) 14 [.agg [.v (.int .i64 v1),.list 1 (v2.map e_f)]] ⟨[.agg [.v (.int .i64 v3),.lsl 0 0 v4.length]],[.rows 1 (v4.map e_f)]⟩:=by
  unfold base_CopyResponse at hr
  have T:=an y2 <| @e_f.eq_1
  apply Spec.fn Tryz.func14 rfl
  focus (simp [Tryz.f14]<;>exact rfl)
  focus
    repeat (first|(with_reducible first|refine mv ?_|refine TO.nil ?_)|((with_reducible first|apply TO.bf|apply TO.al);(repeat (focus (show _ = _;first|exact k1 rfl|exact k2 rfl|(simp only [zz,y2,e_f,Nat.reduceAdd,Nat.reduceMul,Nat.reduceLeDiff,Nat.reduceEqDiff]<;>exact rfl)|exact rfl)));(with_reducible apply TO.here))|((with_reducible apply TX.region);(focus (simp only [zl]<;>exact rfl));(focus rfl);(try dsimp only))|with_reducible refine TD.nil ?_|((with_reducible first|apply TD.fa|apply TD.ld );(repeat (focus (show _ = _;first|exact k1 rfl|exact k2 rfl|(simp only [zz,y2,e_f,Nat.reduceAdd,Nat.reduceMul,Nat.reduceLeDiff,Nat.reduceEqDiff,tfieldAddr,tload,rowOf,partT,List.getElem?_map]<;>exact rfl)|exact rfl)));(with_reducible refine TD.here ?_))|((with_reducible apply TD.ldF);(focus decide +kernel);(repeat (focus (show _ = _;first|exact k1 rfl|exact k2 rfl|(simp only [zz,y2,e_f,Nat.reduceAdd,Nat.reduceMul,Nat.reduceLeDiff,Nat.reduceEqDiff,tfieldAddr,tload,rowOf,partT,List.getElem?_map]<;>exact rfl)|exact rfl)));(with_reducible refine TD.here ?_))|((with_reducible apply TX.drawn);(focus decide +kernel);(focus (simp only [zl]<;>exact rfl));(focus exact rfl);(try dsimp only))|fail)
    apply TD.bl e_f ([] : List Nat) (wn T) rfl (by simp only [zz,y2,e_f,Nat.reduceAdd,Nat.reduceMul,Nat.reduceLeDiff,Nat.reduceEqDiff,tslice,tparts];exact rfl) rfl rfl
    repeat exact sd T
    repeat (first|(with_reducible first|refine mv ?_|refine TD.nil ?_)|((with_reducible first|apply TD.fa|apply TD.ld );(repeat (focus (show _ = _;first|exact k1 rfl|exact k2 rfl|(simp only [zz,y2,e_f,Nat.reduceAdd,Nat.reduceMul,Nat.reduceLeDiff,Nat.reduceEqDiff,tfieldAddr,tload,rowOf,partT,List.getElem?_map]<;>exact rfl)|exact rfl)));(with_reducible refine TD.here ?_))|((with_reducible apply TD.ldF);(focus decide +kernel);(repeat (focus (show _ = _;first|exact k1 rfl|exact k2 rfl|(simp only [zz,y2,e_f,Nat.reduceAdd,Nat.reduceMul,Nat.reduceLeDiff,Nat.reduceEqDiff,tfieldAddr,tload,rowOf,partT,List.getElem?_map]<;>exact rfl)|exact rfl)));(with_reducible refine TD.here ?_))|((with_reducible apply TX.drawn);(focus decide +kernel);(focus (simp only [zl]<;>exact rfl));(focus exact rfl);(try dsimp only))|fail)
    obtain ⟨v5,h1,hr⟩:=bs hr
    apply TD.apf (f:=e_f) (xs:=([] : List Nat)) (ys:=v2) (wn T) rfl rfl (by first|rfl|simp only [List.length_set]) rfl rfl so22 ni22 zc99 rfl (by rw [by99];exact h1) (fun _=>⟨rfl,rfl,rfl⟩) rfl
    repeat exact sd T
    refine wa_ T (g:=?_)
    cases hr
    refine ⟨.inr rfl,_,(ry T),?_⟩
    exact wr [some 1] rfl (.rows .nil rfl rfl)
  rfl

end Go.Rex

namespace Go.Rex
open Go.Proofs
open Go Go.Rex Go.RowKit
set_option maxRecDepth 100000
set_option maxHeartbeats 200000
theorem figure_refuse_spec {v1 : Bool} {v2 : Int} {v3 : Int} (hr : figure_refuse v1 v2 = some (v3)) : Spec (lim Tryz.prog) 59 [.v (.bool v1),.v (.int .i64 v2)] ⟨[.v (.int .i64 v3)],[]⟩:=by
  unfold figure_refuse at hr
  have T:=trivial
  apply Spec.fn Tryz.func59 rfl
  focus (simp [Tryz.f59]<;>exact rfl)
  focus
    refine wa_ T (g:=?_)
    rcases ifs hr with ⟨h1,hr⟩|⟨h1,hr⟩
    · have T:=an h1 T
      refine wa_ T (g:=?_)
      cases hr
      refine ⟨.inr rfl,_,(ry T),?_⟩
      exact wk_ T [] rfl .nil
    · have T:=an h1 T
      refine wa_ T (g:=?_)
      cases hr
      refine ⟨.inr rfl,_,(ry T),?_⟩
      exact wk_ T [] rfl .nil
  rfl

end Go.Rex

namespace Go.Rex
open Go.Proofs
open Go Go.Rex Go.RowKit
set_option maxRecDepth 100000
set_option maxHeartbeats 200000
theorem figure_within_spec {v1 : Int} {v2 : Int} {v3 : Int} {v4 : Int} (hr : figure_within v1 v2 v3 = some (v4)) : Spec (lim Tryz.prog) 61 [.v (.int .i64 v1),.v (.int .i64 v2),.v (.int .i64 v3)] ⟨[.v (.int .i64 v4)],[]⟩:=by
  unfold figure_within at hr
  have T:=trivial
  apply Spec.fn Tryz.func61 rfl
  focus (simp [Tryz.f61]<;>exact rfl)
  focus
    refine wa_ T (g:=?_)
    rcases ifs hr with ⟨h1,hr⟩|⟨h1,hr⟩
    · have T:=an h1 T
      refine wa_ T (g:=?_)
      obtain ⟨v5,h2,hr⟩:=bs hr
      apply TO.cal (wn T) rfl goFn59 (figure_refuse_spec h2) rfl rfl rfl
      repeat exact sd T
      refine wa_ T (g:=?_)
      cases hr
      refine ⟨.inr rfl,_,(ry T),?_⟩
      exact wk_ T [] rfl .nil
    · have T:=an h1 T
      refine wa_ T (g:=?_)
      obtain ⟨v6,h3,hr⟩:=bs hr
      apply TO.cal (wn T) rfl goFn59 (figure_refuse_spec h3) rfl rfl rfl
      repeat exact sd T
      refine wa_ T (g:=?_)
      cases hr
      refine ⟨.inr rfl,_,(ry T),?_⟩
      exact wk_ T [] rfl .nil
  rfl

end Go.Rex

namespace Go.Rex
open Go.Proofs
open Go Go.Rex Go.RowKit
set_option maxRecDepth 100000
set_option maxHeartbeats 200000
theorem figure_rateError_spec {v1 : Int} {v2 : Int} (hr : figure_rateError v1 = some (v2)) : Spec (lim Tryz.prog) 58 [.v (.int .i64 v1)] ⟨[.v (.int .i64 v2)],[]⟩:=by
  unfold figure_rateError at hr
  have T:=trivial
  apply Spec.fn Tryz.func58 rfl
  focus (simp [Tryz.f58]<;>exact rfl)
  focus
    refine wa_ T (g:=?_)
    obtain ⟨v3,h1,hr⟩:=bs hr
    apply TO.cal (wn T) rfl goFn61 (figure_within_spec h1) rfl rfl rfl
    repeat exact sd T
    refine wa_ T (g:=?_)
    cases hr
    refine ⟨.inr rfl,_,(ry T),?_⟩
    exact wr [] rfl .nil
  rfl

end Go.Rex

namespace Go.Rex
open Go.Proofs
open Go Go.Rex Go.RowKit
set_option maxRecDepth 100000
set_option maxHeartbeats 200000
def y3:=an @ag29 <| an @cs29 <| an @ok29 <| an @so136 <| @wi64_0a1
theorem figure_firstError_spec {v1 : (List Int)} {v2 : Int} (hr : figure_firstError v1 = some (v2)) : Spec (lim Tryz.prog) 57 [.list 1 (v1.map e_i)] ⟨[.v (.int .i64 v2)],[]⟩:=by
  unfold figure_firstError at hr
  have T:=an y3 <| @e_i.eq_1
  apply Spec.fn Tryz.func57 rfl
  focus (simp [Tryz.f57]<;>exact rfl)
  focus
    refine wc_ T (g:=?_)
    obtain ⟨v7,h7,hr⟩:=bs hr
    refine TX.loopE (step:=figure_firstError_l1 v1) (x:=0) h7 (fun v3=>⟨.junk :: .junk :: .junk :: .junk :: .junk :: .list 1 (v1.map e_i) :: .v (.int .i64 (v1.length : Int)) :: .v (.int .i64 v3) :: .junk :: .junk :: .junk :: .junk :: .junk :: .junk :: .junk :: [],[]⟩) (fun e=>match e with|(.inl v5)=>(.ret,⟨.junk :: .junk :: .v (.int .i64 v5) :: .junk :: .junk :: .junk :: .junk :: .junk :: .junk :: .junk :: .junk :: .junk :: .junk :: .junk :: .junk :: [],[]⟩)|(.inr _)=>(.exit 0,⟨.junk :: .junk :: .junk :: .junk :: .junk :: .junk :: .junk :: .junk :: .junk :: .junk :: .junk :: .junk :: .junk :: .junk :: .junk :: [],[]⟩)) ?_ ?_ ?_ ?_
    · rintro v3 v0 hr
      dsimp only [figure_firstError_l1] at hr
      try dsimp only
      refine wa_ T (g:=?_)
      rcases ifs hr with ⟨h4,hr⟩|⟨h4,hr⟩
      · have T:=an h4 T
        refine wa_ T (g:=?_)
        obtain ⟨v6,h5,hr⟩:=bs hr
        have T:=an (gx e_i h5) T
        refine wA T (g:=?_)
        rcases ifs hr with ⟨h6,hr⟩|⟨h6,hr⟩
        · have T:=an h6 T
          refine wa_ T (g:=?_)
          cases hr
          refine ⟨rfl,?_⟩
          exact wk_ T [] rfl .nil
        · have T:=an h6 T
          refine wa_ T (g:=?_)
          cases hr
          refine ⟨rfl,?_⟩
          exact wk_ T [] rfl .nil
      · have T:=an h4 T
        refine wa_ T (g:=?_)
        cases hr
        refine ⟨rfl,?_⟩
        exact wk_ T [] rfl .nil
    · intro e h;rcases e with _|e<;>cases h
    · try dsimp only
      rcases v7 with v8|_
      · try dsimp only at hr
        try dsimp only
        refine wa_ T (g:=?_)
        cases hr
        refine ⟨.inr rfl,_,(ry T),?_⟩
        exact wr [] rfl .nil
      · try dsimp only at hr
        try dsimp only
        refine wa_ T (g:=?_)
        cases hr
        refine ⟨.inr rfl,_,(ry T),?_⟩
        exact wr [] rfl .nil
    · try dsimp only
      exact wr [] rfl .nil
  rfl

end Go.Rex

namespace Go.Rex
open Go.Proofs
open Go Go.Rex Go.RowKit
set_option maxRecDepth 100000
set_option maxHeartbeats 200000
def y4:=an @ar_141 <| @ex141
theorem math_Trunc_spec {v1 : Nat} {v2 : Nat} (hr : math_Trunc v1 = some (v2)) : Spec (lim Tryz.prog) 124 [.v (.float .f64 v1)] ⟨[.v (.float .f64 v2)],[]⟩:=by
  unfold math_Trunc at hr
  have T:=y4
  apply Spec.fn Tryz.func124 rfl
  focus (simp [Tryz.f124]<;>exact rfl)
  focus
    refine wa_ T (g:=?_)
    obtain ⟨v3,h1,hr⟩:=bs hr
    apply TO.tr (wn T) rfl ex141 ar_141 (by simp only [z1,z3,zl]<;>rfl) h1
    repeat exact sd T
    refine wa_ T (g:=?_)
    cases hr
    refine ⟨.inr rfl,_,(ry T),?_⟩
    exact wr [] rfl .nil
  rfl

end Go.Rex

namespace Go.Rex
open Go.Proofs
open Go Go.Rex Go.RowKit
set_option maxRecDepth 100000
set_option maxHeartbeats 200000
def y5:=an @ex153 <| @ex154
theorem math_Abs_spec {v1 : Nat} {v2 : Nat} (hr : math_Abs v1 = some (v2)) : Spec (lim Tryz.prog) 143 [.v (.float .f64 v1)] ⟨[.v (.float .f64 v2)],[]⟩:=by
  unfold math_Abs at hr
  have T:=y5
  apply Spec.fn Tryz.func143 rfl
  focus (simp [Tryz.f143]<;>exact rfl)
  focus
    refine wa_ T (g:=?_)
    obtain ⟨v3,h1,hr⟩:=bs hr
    apply TO.fb (wn T) rfl ex153 (by simp only [z1,z3,zl]<;>rfl) h1 rfl
    repeat exact sd T
    refine wa_ T (g:=?_)
    apply TO.pop1 (wn T) (pop_bits rfl rfl (by decide))
    repeat exact sd T
    refine wa_ T (g:=?_)
    apply TO.ex (wn T) rfl ex154 (by simp only [z1,z3,zl];exact rfl) rfl rfl (rfl) rfl rfl rfl
    repeat exact sd T
    refine wa_ T (g:=?_)
    cases hr
    refine ⟨.inr rfl,_,(ry T),?_⟩
    exact wr [] rfl .nil
  rfl

end Go.Rex

namespace Go.Rex
open Go.Proofs
open Go Go.Rex Go.RowKit
set_option maxRecDepth 100000
set_option maxHeartbeats 200000
theorem math_IsInf_spec {v1 : Nat} {v2 : Int} {v3 : Bool} (hr : math_IsInf v1 v2 = some (v3)) : Spec (lim Tryz.prog) 125 [.v (.float .f64 v1),.v (.int .i64 v2)] ⟨[.v (.bool v3)],[]⟩:=by
  unfold math_IsInf at hr
  have T:=trivial
  apply Spec.fn Tryz.func125 rfl
  focus (simp [Tryz.f125]<;>exact rfl)
  focus
    refine wa_ T (g:=?_)
    rcases ifs hr with ⟨h1,hr⟩|⟨h1,hr⟩
    · have T:=an h1 T
      refine wa_ T (g:=?_)
      obtain ⟨v4,h2,hr⟩:=bs hr
      apply TO.cal (wn T) rfl goFn143 (math_Abs_spec h2) rfl rfl rfl
      repeat exact sd T
      refine wa_ T (g:=?_)
      apply TO.pop1 (wn T) (pop_fcmp rfl rfl (by decide))
      repeat exact sd T
      refine wa_ T (g:=?_)
      cases hr
      refine ⟨.inr rfl,_,(ry T),?_⟩
      exact wk_ T [] rfl .nil
    · have T:=an h1 T
      refine wa_ T (g:=?_)
      rcases ifs hr with ⟨h3,hr⟩|⟨h3,hr⟩
      · have T:=an h3 T
        refine wa_ T (g:=?_)
        apply TO.pop1 (wn T) (pop_fneg rfl)
        repeat exact sd T
        refine wa_ T (g:=?_)
        apply TO.pop1 (wn T) (pop_fcmp rfl rfl (by decide))
        repeat exact sd T
        refine wa_ T (g:=?_)
        cases hr
        refine ⟨.inr rfl,_,(ry T),?_⟩
        exact wk_ T [] rfl .nil
      · have T:=an h3 T
        refine wa_ T (g:=?_)
        apply TO.pop1 (wn T) (pop_fcmp rfl rfl (by decide))
        repeat exact sd T
        refine wa_ T (g:=?_)
        cases hr
        refine ⟨.inr rfl,_,(ry T),?_⟩
        exact wk_ T [] rfl .nil
  rfl

end Go.Rex

namespace Go.Rex
open Go.Proofs
open Go Go.Rex Go.RowKit
set_option maxRecDepth 100000
set_option maxHeartbeats 200000
def y6:=an @un103 <| @un99
theorem figure_isWhole_spec {v1 : Nat} {v2 : Bool} (hr : figure_isWhole v1 = some (v2)) : Spec (lim Tryz.prog) 99 [.v (.float .f32 v1)] ⟨[.v (.bool v2)],[]⟩:=by
  unfold figure_isWhole at hr
  have T:=y6
  apply Spec.fn Tryz.func99 rfl
  focus (simp [Tryz.f99]<;>exact rfl)
  focus
    refine wa_ T (g:=?_)
    obtain ⟨v3,h1,hr⟩:=bs hr
    apply TO.pop1 (wn T) (cvt_float_float un99 un103 rfl h1)
    repeat exact sd T
    refine wa_ T (g:=?_)
    obtain ⟨v4,h2,hr⟩:=bs hr
    apply TO.cal (wn T) rfl goFn124 (math_Trunc_spec h2) rfl rfl rfl
    repeat exact sd T
    refine wa_ T (g:=?_)
    apply TO.pop1 (wn T) (pop_fcmp rfl rfl (by decide))
    repeat exact sd T
    refine wa_ T (g:=?_)
    rcases ifs hr with ⟨h3,hr⟩|⟨h3,hr⟩
    · have T:=an h3 T
      refine wa_ T (g:=?_)
      obtain ⟨v5,h4,hr⟩:=bs hr
      apply TO.cal (wn T) rfl goFn125 (math_IsInf_spec h4) rfl rfl rfl
      repeat exact sd T
      refine wa_ T (g:=?_)
      apply TO.pop1 (wn T) (pop_not rfl)
      repeat exact sd T
      refine wa_ T (g:=?_)
      cases hr
      refine ⟨.inr rfl,_,(ry T),?_⟩
      exact wk_ T [] rfl .nil
    · have T:=an h3 T
      refine wa_ T (g:=?_)
      cases hr
      refine ⟨.inr rfl,_,(ry T),?_⟩
      exact wk_ T [] rfl .nil
  rfl

end Go.Rex

namespace Go.Rex
open Go.Proofs
open Go Go.Rex Go.RowKit
set_option maxRecDepth 100000
set_option maxHeartbeats 200000
def y7:=an @cs29 <| an @so136 <| @zc29
theorem figure_sampleError_spec {v1 : Nat} {v2 : Int} (hr : figure_sampleError v1 = some (v2)) : Spec (lim Tryz.prog) 60 [.v (.float .f32 v1)] ⟨[.v (.int .i64 v2)],[]⟩:=by
  unfold figure_sampleError at hr
  have T:=an y7 <| @e_i.eq_1
  apply Spec.fn Tryz.func60 rfl
  focus (simp [Tryz.f60]<;>exact rfl)
  focus
    refine wa_ T (g:=?_)
    obtain ⟨v3,h1,hr⟩:=bs hr
    apply TO.cal (wn T) rfl goFn99 (figure_isWhole_spec h1) rfl rfl rfl
    repeat exact sd T
    refine wa_ T (g:=?_)
    apply TO.pop1 (wn T) (pop_not rfl)
    repeat exact sd T
    refine wa_ T (g:=?_)
    obtain ⟨v4,h2,hr⟩:=bs hr
    apply TO.cal (wn T) rfl goFn59 (figure_refuse_spec h2) rfl rfl rfl
    repeat exact sd T
    refine wa_ T (g:=?_)
    apply TO.pop1 (wn T) (pop_fcmp rfl rfl (by decide))
    repeat exact sd T
    refine wa_ T (g:=?_)
    rcases ifs hr with ⟨h3,hr⟩|⟨h3,hr⟩
    · have T:=an h3 T
      refine wa_ T (g:=?_)
      obtain ⟨v5,h4,hr⟩:=bs hr
      apply TO.cal (wn T) rfl goFn59 (figure_refuse_spec h4) rfl rfl rfl
      repeat exact sd T
      refine wa_ T (g:=?_)
      apply TO.bm e_i ([v4,v5] : List Int) (wn T) rfl (by simp only [zz,y7,e_i,Nat.reduceAdd,Nat.reduceMul,Nat.reduceLeDiff,Nat.reduceEqDiff,tslice,tparts,h3];exact rfl) rfl
      repeat exact sd T
      refine wa_ T (g:=?_)
      obtain ⟨v6,h5,hr⟩:=bs hr
      apply TO.cal (wn T) rfl goFn57 (figure_firstError_spec h5) rfl rfl rfl
      repeat exact sd T
      refine wa_ T (g:=?_)
      cases hr
      refine ⟨.inr rfl,_,(ry T),?_⟩
      exact wk_ T [] rfl .nil
    · have T:=an h3 T
      refine wa_ T (g:=?_)
      apply TO.pop1 (wn T) (pop_fcmp rfl rfl (by decide))
      repeat exact sd T
      refine wa_ T (g:=?_)
      obtain ⟨v7,h6,hr⟩:=bs hr
      apply TO.cal (wn T) rfl goFn59 (figure_refuse_spec h6) rfl rfl rfl
      repeat exact sd T
      refine wa_ T (g:=?_)
      apply TO.bm e_i ([v4,v7] : List Int) (wn T) rfl (by simp only [zz,y7,e_i,Nat.reduceAdd,Nat.reduceMul,Nat.reduceLeDiff,Nat.reduceEqDiff,tslice,tparts,h3];exact rfl) rfl
      repeat exact sd T
      refine wa_ T (g:=?_)
      obtain ⟨v8,h7,hr⟩:=bs hr
      apply TO.cal (wn T) rfl goFn57 (figure_firstError_spec h7) rfl rfl rfl
      repeat exact sd T
      refine wa_ T (g:=?_)
      cases hr
      refine ⟨.inr rfl,_,(ry T),?_⟩
      exact wk_ T [] rfl .nil
  rfl

end Go.Rex

namespace Go.Rex
open Go.Proofs
open Go Go.Rex Go.RowKit
set_option maxRecDepth 100000
set_option maxHeartbeats 1000000
def y8:=an @ag22 <| an @ag3 <| an @ag99 <| an @cs29 <| an @cs99 <| an @fd24_0 <| an @fd24_1 <| an @ok99 <| an @so136 <| an @so22 <| an @zc29 <| @wi64_0a1
theorem figure_CheckResponse_spec {v1 : Int} {v2 : (List Nat)} {v3 : Int} {v4 : Int} (hr : figure_CheckResponse v1 v2 = some (v3,v4)) : Spec (lim Tryz.prog) 13 [.agg [.v (.int .i64 v1),.list 1 (v2.map e_f)]] ⟨[.tuple [.v (.int .i64 v3),.v (.int .i64 v4)]],[]⟩:=by
  unfold figure_CheckResponse at hr
  have T:=an y8 <| an @e_f.eq_1 <| @e_i.eq_1
  apply Spec.fn Tryz.func13 rfl
  focus (simp [Tryz.f13]<;>exact rfl)
  focus
    refine wB T (g:=?_)
    obtain ⟨v5,h1,hr⟩:=bs hr
    apply TD.cal (wn T) rfl goFn58 (figure_rateError_spec h1) rfl rfl rfl
    repeat exact sd T
    refine wC T (g:=?_)
    obtain ⟨v6,h2,hr⟩:=bs hr
    apply TD.cal (wn T) rfl goFn59 (figure_refuse_spec h2) rfl rfl rfl
    repeat exact sd T
    refine wC T (g:=?_)
    obtain ⟨v7,h3,hr⟩:=bs hr
    apply TD.cal (wn T) rfl goFn59 (figure_refuse_spec h3) rfl rfl rfl
    repeat exact sd T
    refine wa_ T (g:=?_)
    apply TD.bm e_i ([v5,v6,v7] : List Int) (wn T) rfl (by simp only [zz,y8,e_f,e_i,Nat.reduceAdd,Nat.reduceMul,Nat.reduceLeDiff,Nat.reduceEqDiff,tslice,tparts];exact rfl) rfl
    repeat exact sd T
    refine wa_ T (g:=?_)
    obtain ⟨v8,h4,hr⟩:=bs hr
    apply TD.cal (wn T) rfl goFn57 (figure_firstError_spec h4) rfl rfl rfl
    repeat exact sd T
    refine wa_ T (g:=?_)
    rcases ifs hr with ⟨h5,hr⟩|⟨h5,hr⟩
    · have T:=an h5 T
      refine wa_ T (g:=?_)
      cases hr
      refine ⟨.inr rfl,_,(ry T),?_⟩
      exact wk_ T [] rfl .nil
    · have T:=an h5 T
      refine wC T (g:=?_)
      obtain ⟨v16,h14,hr⟩:=bs hr
      refine TX.loopE (step:=figure_CheckResponse_l1 v2) (x:=0) h14 (fun v9=>⟨.junk :: .junk :: .junk :: .junk :: .junk :: .junk :: .junk :: .junk :: .junk :: .junk :: .junk :: .junk :: .junk :: .junk :: .junk :: .junk :: .junk :: .junk :: .junk :: .junk :: .junk :: .junk :: .junk :: .junk :: .junk :: .junk :: .junk :: .list 1 (v2.map e_f) :: .v (.int .i64 (v2.length : Int)) :: .v (.int .i64 v9) :: .junk :: .junk :: .junk :: .junk :: .junk :: .junk :: .junk :: .junk :: .junk :: .junk :: .junk :: [],[]⟩) (fun e=>match e with|(.inl (v12,v13))=>(.ret,⟨.junk :: .junk :: .v (.int .i64 v12) :: .v (.int .i64 v13) :: .junk :: .junk :: .junk :: .junk :: .junk :: .junk :: .junk :: .junk :: .junk :: .junk :: .junk :: .junk :: .junk :: .junk :: .junk :: .junk :: .junk :: .junk :: .junk :: .junk :: .junk :: .junk :: .junk :: .junk :: .junk :: .junk :: .junk :: .junk :: .junk :: .junk :: .junk :: .junk :: .junk :: .junk :: .junk :: .junk :: .junk :: [],[]⟩)|(.inr _)=>(.exit 0,⟨.junk :: .junk :: .junk :: .junk :: .junk :: .junk :: .junk :: .junk :: .junk :: .junk :: .junk :: .junk :: .junk :: .junk :: .junk :: .junk :: .junk :: .junk :: .junk :: .junk :: .junk :: .junk :: .junk :: .junk :: .junk :: .junk :: .junk :: .junk :: .junk :: .junk :: .junk :: .junk :: .junk :: .junk :: .junk :: .junk :: .junk :: .junk :: .junk :: .junk :: .junk :: [],[]⟩)) ?_ ?_ ?_ ?_
      · rintro v9 v0 hr
        dsimp only [figure_CheckResponse_l1] at hr
        try dsimp only
        refine wa_ T (g:=?_)
        rcases ifs hr with ⟨h10,hr⟩|⟨h10,hr⟩
        · have T:=an h10 T
          refine wa_ T (g:=?_)
          obtain ⟨v14,h11,hr⟩:=bs hr
          have T:=an (gx e_f h11) T
          refine wA T (g:=?_)
          obtain ⟨v15,h12,hr⟩:=bs hr
          apply TO.cal (wn T) rfl goFn60 (figure_sampleError_spec h12) rfl rfl rfl
          repeat exact sd T
          refine wa_ T (g:=?_)
          rcases ifs hr with ⟨h13,hr⟩|⟨h13,hr⟩
          · have T:=an h13 T
            refine wa_ T (g:=?_)
            cases hr
            refine ⟨rfl,?_⟩
            exact wk_ T [] rfl .nil
          · have T:=an h13 T
            refine wa_ T (g:=?_)
            cases hr
            refine ⟨rfl,?_⟩
            exact wk_ T [] rfl .nil
        · have T:=an h10 T
          refine wa_ T (g:=?_)
          cases hr
          refine ⟨rfl,?_⟩
          exact wk_ T [] rfl .nil
      · intro e h;rcases e with _|e<;>cases h
      · try dsimp only
        rcases v16 with ⟨v17,v18⟩|_
        · try dsimp only at hr
          try dsimp only
          refine wa_ T (g:=?_)
          cases hr
          refine ⟨.inr rfl,_,(ry T),?_⟩
          exact wk_ T [] rfl .nil
        · try dsimp only at hr
          try dsimp only
          refine wa_ T (g:=?_)
          cases hr
          refine ⟨.inr rfl,_,(ry T),?_⟩
          exact wk_ T [] rfl .nil
      · try dsimp only
        exact wk_ T [] rfl .nil
  rfl

end Go.Rex

namespace Go.Rex
open Go.Proofs
open Go Go.Rex Go.RowKit
set_option maxRecDepth 100000
set_option maxHeartbeats 200000
def y9:=an @ag24 <| an @ag26 <| an @cs24 <| an @cs26 <| an @fd26_0 <| an @ok24 <| an @ok26 <| @zc26
theorem ref05_Copy_spec {v1 : Int} {v2 : (List Nat)} {v3 : Int} {v4 : Int} {v5 : Int} {v6 : (List Nat)} {v7 : Int} {v8 : Int} (hr : ref05_Copy v1 v2 v3 v4 = some (v5,v6,v7,v8)) : Spec (lim Tryz.prog) 16 [.agg [.v (.int .i64 v1),.list 1 (v2.map e_f),.v (.int .i64 v3),.v (.int .i64 v4)]] ⟨[.agg [.v (.int .i64 v5),.lsl 0 0 v6.length,.v (.int .i64 v7),.v (.int .i64 v8)]],[.rows 1 (v6.map e_f)]⟩:=by
  unfold ref05_Copy at hr
  have T:=an y9 <| @e_f.eq_1
  apply Spec.fn Tryz.func16 rfl
  focus (simp [Tryz.f16]<;>exact rfl)
  focus
    repeat (first|(with_reducible first|refine mv ?_|refine TO.nil ?_)|((with_reducible first|apply TO.bx (dst:=some 1)|apply TO.al|apply TO.fa|apply TO.ld);(repeat (focus (show _ = _;first|exact k1 rfl|exact k2 rfl|(simp only [zz,y9,e_f,Nat.reduceAdd,Nat.reduceMul,Nat.reduceLeDiff,Nat.reduceEqDiff,tfieldAddr,tload,rowOf,partT,List.getElem?_map]<;>exact rfl)|exact rfl)));(with_reducible apply TO.here))|((with_reducible apply TX.region);(focus (simp only [zl]<;>exact rfl));(focus rfl);(try dsimp only))|fail)
    obtain ⟨⟨v9,v10⟩,h1,hr⟩:=bs hr
    try dsimp only at hr
    apply TO.cal (wn T) rfl goFn14 (base_CopyResponse_spec h1) rfl rfl rfl
    repeat exact sd T
    refine wA T (g:=?_)
    cases hr
    refine ⟨.inr rfl,_,(ry T),?_⟩
    exact wr [some 2] rfl (.rows .nil rfl rfl)
  rfl

end Go.Rex

namespace Go.Rex
open Go.Proofs
open Go Go.Rex Go.RowKit
set_option maxRecDepth 100000
set_option maxHeartbeats 200000
def y10:=an @ag24 <| an @ag3 <| an @cs24 <| an @cs29 <| an @fd26_0 <| an @fd26_1 <| an @fd26_2 <| an @ok24 <| an @so136 <| @zc29
theorem figure_CheckAsk_spec {v1 : Int} {v2 : (List Nat)} {v3 : Int} {v4 : Int} {v5 : Int} {v6 : Int} (hr : figure_CheckAsk v1 v2 v3 v4 = some (v5,v6)) : Spec (lim Tryz.prog) 15 [.agg [.v (.int .i64 v1),.list 1 (v2.map e_f),.v (.int .i64 v3),.v (.int .i64 v4)]] ⟨[.tuple [.v (.int .i64 v5),.v (.int .i64 v6)]],[]⟩:=by
  unfold figure_CheckAsk at hr
  have T:=an y10 <| an @e_f.eq_1 <| @e_i.eq_1
  apply Spec.fn Tryz.func15 rfl
  focus (simp [Tryz.f15]<;>exact rfl)
  focus
    refine wB T (g:=?_)
    obtain ⟨⟨v7,v8⟩,h1,hr⟩:=bs hr
    try dsimp only at hr
    apply TO.cal (wn T) rfl goFn13 (figure_CheckResponse_spec h1) rfl rfl rfl
    repeat exact sd T
    refine wa_ T (g:=?_)
    rcases ifs hr with ⟨h2,hr⟩|⟨h2,hr⟩
    · have T:=an h2 T
      refine wa_ T (g:=?_)
      cases hr
      refine ⟨.inr rfl,_,(ry T),?_⟩
      exact wk_ T [] rfl .nil
    · have T:=an h2 T
      refine wA T (g:=?_)
      obtain ⟨v9,h3,hr⟩:=bs hr
      apply TD.cal (wn T) rfl goFn61 (figure_within_spec h3) rfl rfl rfl
      repeat exact sd T
      refine wA T (g:=?_)
      obtain ⟨v10,h4,hr⟩:=bs hr
      apply TD.cal (wn T) rfl goFn61 (figure_within_spec h4) rfl rfl rfl
      repeat exact sd T
      refine wa_ T (g:=?_)
      apply TD.bm e_i ([v9,v10] : List Int) (wn T) rfl (by simp only [zz,y10,e_f,e_i,Nat.reduceAdd,Nat.reduceMul,Nat.reduceLeDiff,Nat.reduceEqDiff,tslice,tparts,h2];exact rfl) rfl
      repeat exact sd T
      refine wa_ T (g:=?_)
      obtain ⟨v11,h5,hr⟩:=bs hr
      apply TD.cal (wn T) rfl goFn57 (figure_firstError_spec h5) rfl rfl rfl
      repeat exact sd T
      refine wa_ T (g:=?_)
      cases hr
      refine ⟨.inr rfl,_,(ry T),?_⟩
      exact wk_ T [] rfl .nil
  rfl

end Go.Rex

namespace Go.Rex
open Go.Proofs
open Go Go.Rex Go.RowKit
set_option maxRecDepth 100000
set_option maxHeartbeats 200000
theorem figure_timeError_spec {v1 : Int} {v2 : Int} (hr : figure_timeError v1 = some (v2)) : Spec (lim Tryz.prog) 62 [.v (.int .i64 v1)] ⟨[.v (.int .i64 v2)],[]⟩:=by
  unfold figure_timeError at hr
  have T:=trivial
  apply Spec.fn Tryz.func62 rfl
  focus (simp [Tryz.f62]<;>exact rfl)
  focus
    refine wa_ T (g:=?_)
    obtain ⟨v3,h1,hr⟩:=bs hr
    apply TO.cal (wn T) rfl goFn61 (figure_within_spec h1) rfl rfl rfl
    repeat exact sd T
    refine wa_ T (g:=?_)
    cases hr
    refine ⟨.inr rfl,_,(ry T),?_⟩
    exact wr [] rfl .nil
  rfl

end Go.Rex

namespace Go.Rex
open Go.Proofs
open Go Go.Rex Go.RowKit
set_option maxRecDepth 100000
set_option maxHeartbeats 200000
theorem figure_up_spec {v1 : Int} {v2 : Int} {v3 : Int} (hr : figure_up v1 v2 = some (v3)) : Spec (lim Tryz.prog) 100 [.v (.int .i64 v1),.v (.int .i64 v2)] ⟨[.v (.int .i64 v3)],[]⟩:=by
  unfold figure_up at hr
  have T:=trivial
  apply Spec.fn Tryz.func100 rfl
  focus (simp [Tryz.f100]<;>exact rfl)
  focus
    refine wa_ T (g:=?_)
    by_cases h1 : v2 = 0
    · rw [if_pos h1] at hr
      cases hr
    · rw [if_neg h1] at hr
      have T:=an h1 T
      refine wa_ T (g:=?_)
      cases hr
      refine ⟨.inr rfl,_,(ry T),?_⟩
      exact wr [] rfl .nil
  rfl

end Go.Rex

namespace Go.Rex
open Go.Proofs
open Go Go.Rex Go.RowKit
set_option maxRecDepth 100000
set_option maxHeartbeats 200000
theorem figure_sampleAt_spec {v1 : Int} {v2 : Int} {v3 : Int} (hr : figure_sampleAt v1 v2 = some (v3)) : Spec (lim Tryz.prog) 63 [.v (.int .i64 v1),.v (.int .i64 v2)] ⟨[.v (.int .i64 v3)],[]⟩:=by
  unfold figure_sampleAt at hr
  have T:=trivial
  apply Spec.fn Tryz.func63 rfl
  focus (simp [Tryz.f63]<;>exact rfl)
  focus
    refine wa_ T (g:=?_)
    obtain ⟨v4,h1,hr⟩:=bs hr
    apply TO.cal (wn T) rfl goFn100 (figure_up_spec h1) rfl rfl rfl
    repeat exact sd T
    refine wa_ T (g:=?_)
    cases hr
    refine ⟨.inr rfl,_,(ry T),?_⟩
    exact wr [] rfl .nil
  rfl

end Go.Rex

namespace Go.Rex
open Go.Proofs
open Go Go.Rex Go.RowKit
set_option maxRecDepth 100000
set_option maxHeartbeats 200000
def y11:=an @cs29 <| an @so136 <| @zc29
theorem figure_SampleAt_spec {v1 : Int} {v2 : Int} {v3 : Int} {v4 : Int} (hr : figure_SampleAt v1 v2 = some (v3,v4)) : Spec (lim Tryz.prog) 17 [.v (.int .i64 v1),.v (.int .i64 v2)] ⟨[.tuple [.v (.int .i64 v3),.v (.int .i64 v4)]],[]⟩:=by
  unfold figure_SampleAt at hr
  have T:=an y11 <| @e_i.eq_1
  apply Spec.fn Tryz.func17 rfl
  focus (simp [Tryz.f17]<;>exact rfl)
  focus
    refine wa_ T (g:=?_)
    obtain ⟨v5,h1,hr⟩:=bs hr
    apply TO.cal (wn T) rfl goFn58 (figure_rateError_spec h1) rfl rfl rfl
    repeat exact sd T
    refine wa_ T (g:=?_)
    obtain ⟨v6,h2,hr⟩:=bs hr
    apply TO.cal (wn T) rfl goFn62 (figure_timeError_spec h2) rfl rfl rfl
    repeat exact sd T
    refine wa_ T (g:=?_)
    apply TO.bm e_i ([v5,v6] : List Int) (wn T) rfl (by simp only [zz,y11,e_i,Nat.reduceAdd,Nat.reduceMul,Nat.reduceLeDiff,Nat.reduceEqDiff,tslice,tparts];exact rfl) rfl
    repeat exact sd T
    refine wa_ T (g:=?_)
    obtain ⟨v7,h3,hr⟩:=bs hr
    apply TO.cal (wn T) rfl goFn57 (figure_firstError_spec h3) rfl rfl rfl
    repeat exact sd T
    refine wa_ T (g:=?_)
    rcases ifs hr with ⟨h4,hr⟩|⟨h4,hr⟩
    · have T:=an h4 T
      refine wa_ T (g:=?_)
      cases hr
      refine ⟨.inr rfl,_,(ry T),?_⟩
      exact wk_ T [] rfl .nil
    · have T:=an h4 T
      refine wa_ T (g:=?_)
      obtain ⟨v8,h5,hr⟩:=bs hr
      apply TO.cal (wn T) rfl goFn63 (figure_sampleAt_spec h5) rfl rfl rfl
      repeat exact sd T
      refine wa_ T (g:=?_)
      cases hr
      refine ⟨.inr rfl,_,(ry T),?_⟩
      exact wk_ T [] rfl .nil
  rfl

end Go.Rex

namespace Go.Rex
open Go.Proofs
open Go Go.Rex Go.RowKit
set_option maxRecDepth 100000
set_option maxHeartbeats 200000
theorem base_Within_spec {v1 : Int} {v2 : Int} {v3 : Int} {v4 : Bool} (hr : base_Within v1 v2 v3 = some (v4)) : Spec (lim Tryz.prog) 28 [.v (.int .i64 v1),.v (.int .i64 v2),.v (.int .i64 v3)] ⟨[.v (.bool v4)],[]⟩:=by
  unfold base_Within at hr
  have T:=trivial
  apply Spec.fn Tryz.func28 rfl
  focus (simp [Tryz.f28]<;>exact rfl)
  focus
    refine wa_ T (g:=?_)
    rcases ifs hr with ⟨h1,hr⟩|⟨h1,hr⟩
    · have T:=an h1 T
      refine wa_ T (g:=?_)
      cases hr
      refine ⟨.inr rfl,_,(ry T),?_⟩
      exact wk_ T [] rfl .nil
    · have T:=an h1 T
      refine wa_ T (g:=?_)
      cases hr
      refine ⟨.inr rfl,_,(ry T),?_⟩
      exact wk_ T [] rfl .nil
  rfl

end Go.Rex

namespace Go.Rex
open Go.Proofs
open Go Go.Rex Go.RowKit
set_option maxRecDepth 100000
set_option maxHeartbeats 200000
theorem ref05_isRate_spec {v1 : Int} {v2 : Bool} (hr : ref05_isRate v1 = some (v2)) : Spec (lim Tryz.prog) 64 [.v (.int .i64 v1)] ⟨[.v (.bool v2)],[]⟩:=by
  unfold ref05_isRate at hr
  have T:=trivial
  apply Spec.fn Tryz.func64 rfl
  focus (simp [Tryz.f64]<;>exact rfl)
  focus
    refine wa_ T (g:=?_)
    obtain ⟨v3,h1,hr⟩:=bs hr
    apply TO.cal (wn T) rfl goFn28 (base_Within_spec h1) rfl rfl rfl
    repeat exact sd T
    refine wa_ T (g:=?_)
    cases hr
    refine ⟨.inr rfl,_,(ry T),?_⟩
    exact wr [] rfl .nil
  rfl

end Go.Rex

namespace Go.Rex
open Go.Proofs
open Go Go.Rex Go.RowKit
set_option maxRecDepth 100000
set_option maxHeartbeats 1000000
def y12:=an @un103 <| @un3
theorem base_IsWhole_spec {v1 : Nat} {v2 : Bool} (hr : base_IsWhole v1 = some (v2)) : Spec (lim Tryz.prog) 65 [.v (.float .f64 v1)] ⟨[.v (.bool v2)],[]⟩:=by
  unfold base_IsWhole at hr
  have T:=y12
  apply Spec.fn Tryz.func65 rfl
  focus (simp [Tryz.f65]<;>exact rfl)
  focus
    refine wa_ T (g:=?_)
    apply TO.pop1 (wn T) (pop_fcmp rfl rfl (by decide))
    repeat exact sd T
    refine wa_ T (g:=?_)
    rcases ifs hr with ⟨h1,hr⟩|⟨h1,hr⟩
    · have T:=an h1 T
      refine wa_ T (g:=?_)
      cases hr
      refine ⟨.inr rfl,_,(ry T),?_⟩
      exact wk_ T [] rfl .nil
    · have T:=an h1 T
      refine wa_ T (g:=?_)
      obtain ⟨v3,h2,hr⟩:=bs hr
      apply TO.pop1 (wn T) (pop_farith rfl rfl (by decide) (h2))
      repeat exact sd T
      refine wa_ T (g:=?_)
      apply TO.pop1 (wn T) (pop_fcmp rfl rfl (by decide))
      repeat exact sd T
      refine wa_ T (g:=?_)
      rcases ifs hr with ⟨h3,hr⟩|⟨h3,hr⟩
      · have T:=an h3 T
        refine wa_ T (g:=?_)
        cases hr
        refine ⟨.inr rfl,_,(ry T),?_⟩
        exact wk_ T [] rfl .nil
      · have T:=an h3 T
        refine wa_ T (g:=?_)
        apply TO.pop1 (wn T) (pop_fcmp rfl rfl (by decide))
        repeat exact sd T
        refine wa_ T (g:=?_)
        rcases ifs hr with ⟨h4,hr⟩|⟨h4,hr⟩
        · have T:=an h4 T
          refine wa_ T (g:=?_)
          apply TO.pop1 (wn T) (pop_fcmp rfl rfl (by decide))
          repeat exact sd T
          refine wa_ T (g:=?_)
          apply TO.pop1 (wn T) (pop_not rfl)
          repeat exact sd T
          refine wa_ T (g:=?_)
          rcases ifs hr with ⟨h5,hr⟩|⟨h5,hr⟩
          · have T:=an h5 T
            refine wa_ T (g:=?_)
            obtain ⟨v4,h6,hr⟩:=bs hr
            apply TO.pop1 (wn T) (cvt_float_int un103 un3 rfl h6)
            repeat exact sd T
            refine wa_ T (g:=?_)
            apply TO.pop1 (wn T) (cvt_int_float un3 un103 rfl)
            repeat exact sd T
            refine wa_ T (g:=?_)
            apply TO.pop1 (wn T) (pop_fcmp rfl rfl (by decide))
            repeat exact sd T
            refine wa_ T (g:=?_)
            cases hr
            refine ⟨.inr rfl,_,(ry T),?_⟩
            exact wk_ T [] rfl .nil
          · have T:=an h5 T
            refine wa_ T (g:=?_)
            cases hr
            refine ⟨.inr rfl,_,(ry T),?_⟩
            exact wk_ T [] rfl .nil
        · have T:=an h4 T
          refine wa_ T (g:=?_)
          apply TO.pop1 (wn T) (pop_not rfl)
          repeat exact sd T
          refine wa_ T (g:=?_)
          cases hr
          refine ⟨.inr rfl,_,(ry T),?_⟩
          exact wk_ T [] rfl .nil
  rfl

end Go.Rex

namespace Go.Rex
open Go.Proofs
open Go Go.Rex Go.RowKit
set_option maxRecDepth 100000
set_option maxHeartbeats 1000000
def y13:=an @ag22 <| an @ag3 <| an @ag99 <| an @cs99 <| an @fd24_0 <| an @fd24_1 <| an @ok99 <| an @so22 <| an @un103 <| an @un99 <| @wi64_0a1
theorem ref05_CheckResponse_spec {v1 : Int} {v2 : (List Nat)} {v3 : Int} {v4 : Int} (hr : ref05_CheckResponse v1 v2 = some (v3,v4)) : Spec (lim Tryz.prog) 18 [.agg [.v (.int .i64 v1),.list 1 (v2.map e_f)]] ⟨[.tuple [.v (.int .i64 v3),.v (.int .i64 v4)]],[]⟩:=by
  unfold ref05_CheckResponse at hr
  have T:=an y13 <| @e_f.eq_1
  apply Spec.fn Tryz.func18 rfl
  focus (simp [Tryz.f18]<;>exact rfl)
  focus
    refine wB T (g:=?_)
    obtain ⟨v5,h1,hr⟩:=bs hr
    apply TO.cal (wn T) rfl goFn64 (ref05_isRate_spec h1) rfl rfl rfl
    repeat exact sd T
    refine wa_ T (g:=?_)
    apply TO.pop1 (wn T) (pop_not rfl)
    repeat exact sd T
    refine wa_ T (g:=?_)
    rcases ifs hr with ⟨h2,hr⟩|⟨h2,hr⟩
    · have T:=an h2 T
      refine wC T (g:=?_)
      rcases ifs hr with ⟨h3,hr⟩|⟨h3,hr⟩
      · have T:=an h3 T
        refine wa_ T (g:=?_)
        cases hr
        refine ⟨.inr rfl,_,(ry T),?_⟩
        exact wk_ T [] rfl .nil
      · have T:=an h3 T
        refine wC T (g:=?_)
        rcases ifs hr with ⟨h4,hr⟩|⟨h4,hr⟩
        · have T:=an h4 T
          refine wa_ T (g:=?_)
          cases hr
          refine ⟨.inr rfl,_,(ry T),?_⟩
          exact wk_ T [] rfl .nil
        · have T:=an h4 T
          refine wa_ T (g:=?_)
          obtain ⟨v15,h19,hr⟩:=bs hr
          refine TX.loopE (step:=ref05_CheckResponse_l1 v2) (x:=0) h19 (fun v6=>⟨.junk :: .fptr true [.v (.int .i64 v1),.list 1 (v2.map e_f)] 0 :: .junk :: .junk :: .v (.int .i64 v6) :: .junk :: .junk :: .junk :: .junk :: .junk :: .junk :: .junk :: .junk :: .junk :: .junk :: .junk :: .junk :: .junk :: .junk :: .junk :: .junk :: .junk :: .junk :: .junk :: .junk :: .junk :: .junk :: .junk :: .junk :: .junk :: .junk :: .junk :: .junk :: .junk :: .junk :: .junk :: .junk :: .junk :: .junk :: .junk :: .junk :: .junk :: [],[]⟩) (fun e=>match e with|(.inl (v10,v11))=>(.ret,⟨.junk :: .junk :: .v (.int .i64 v10) :: .v (.int .i64 v11) :: .junk :: .junk :: .junk :: .junk :: .junk :: .junk :: .junk :: .junk :: .junk :: .junk :: .junk :: .junk :: .junk :: .junk :: .junk :: .junk :: .junk :: .junk :: .junk :: .junk :: .junk :: .junk :: .junk :: .junk :: .junk :: .junk :: .junk :: .junk :: .junk :: .junk :: .junk :: .junk :: .junk :: .junk :: .junk :: .junk :: .junk :: .junk :: [],[]⟩)|(.inr _)=>(.exit 0,⟨.junk :: .junk :: .junk :: .junk :: .junk :: .junk :: .junk :: .junk :: .junk :: .junk :: .junk :: .junk :: .junk :: .junk :: .junk :: .junk :: .junk :: .junk :: .junk :: .junk :: .junk :: .junk :: .junk :: .junk :: .junk :: .junk :: .junk :: .junk :: .junk :: .junk :: .junk :: .junk :: .junk :: .junk :: .junk :: .junk :: .junk :: .junk :: .junk :: .junk :: .junk :: .junk :: [],[]⟩)) ?_ ?_ ?_ ?_
          · rintro v6 v0 hr
            dsimp only [ref05_CheckResponse_l1] at hr
            try dsimp only
            refine wC T (g:=?_)
            rcases ifs hr with ⟨h12,hr⟩|⟨h12,hr⟩
            · have T:=an h12 T
              refine wA T (g:=?_)
              obtain ⟨v12,h13,hr⟩:=bs hr
              have T:=an (gx e_f h13) T
              refine wA T (g:=?_)
              obtain ⟨v13,h14,hr⟩:=bs hr
              apply TO.pop1 (wn T) (cvt_float_float un99 un103 rfl h14)
              repeat exact sd T
              refine wa_ T (g:=?_)
              obtain ⟨v14,h15,hr⟩:=bs hr
              apply TO.cal (wn T) rfl goFn65 (base_IsWhole_spec h15) rfl rfl rfl
              repeat exact sd T
              refine wa_ T (g:=?_)
              apply TO.pop1 (wn T) (pop_not rfl)
              repeat exact sd T
              refine wa_ T (g:=?_)
              rcases ifs hr with ⟨h16,hr⟩|⟨h16,hr⟩
              · have T:=an h16 T
                refine wa_ T (g:=?_)
                apply TO.pop1 (wn T) (pop_fcmp rfl rfl (by decide))
                repeat exact sd T
                refine wa_ T (g:=?_)
                rcases ifs hr with ⟨h17,hr⟩|⟨h17,hr⟩
                · have T:=an h17 T
                  refine wa_ T (g:=?_)
                  cases hr
                  refine ⟨rfl,?_⟩
                  exact wk_ T [] rfl .nil
                · have T:=an h17 T
                  refine wa_ T (g:=?_)
                  apply TO.pop1 (wn T) (pop_fcmp rfl rfl (by decide))
                  repeat exact sd T
                  refine wa_ T (g:=?_)
                  rcases ifs hr with ⟨h18,hr⟩|⟨h18,hr⟩
                  · have T:=an h18 T
                    refine wa_ T (g:=?_)
                    cases hr
                    refine ⟨rfl,?_⟩
                    exact wk_ T [] rfl .nil
                  · have T:=an h18 T
                    refine wa_ T (g:=?_)
                    cases hr
                    refine ⟨rfl,?_⟩
                    exact wk_ T [] rfl .nil
              · have T:=an h16 T
                refine wa_ T (g:=?_)
                cases hr
                refine ⟨rfl,?_⟩
                exact wk_ T [] rfl .nil
            · have T:=an h12 T
              refine wa_ T (g:=?_)
              cases hr
              refine ⟨rfl,?_⟩
              exact wk_ T [] rfl .nil
          · intro e h;rcases e with _|e<;>cases h
          · try dsimp only
            rcases v15 with ⟨v16,v17⟩|_
            · try dsimp only at hr
              try dsimp only
              refine wa_ T (g:=?_)
              cases hr
              refine ⟨.inr rfl,_,(ry T),?_⟩
              exact wk_ T [] rfl .nil
            · try dsimp only at hr
              try dsimp only
              refine wa_ T (g:=?_)
              cases hr
              refine ⟨.inr rfl,_,(ry T),?_⟩
              exact wk_ T [] rfl .nil
          · try dsimp only
            exact wk_ T [] rfl .nil
    · have T:=an h2 T
      refine wa_ T (g:=?_)
      cases hr
      refine ⟨.inr rfl,_,(ry T),?_⟩
      exact wk_ T [] rfl .nil
  rfl

end Go.Rex

namespace Go.Rex
open Go.Proofs
open Go Go.Rex Go.RowKit
set_option maxRecDepth 100000
set_option maxHeartbeats 200000
def y14:=an @ag24 <| an @ag3 <| an @cs24 <| an @fd26_0 <| an @fd26_1 <| an @fd26_2 <| @ok24
theorem ref05_CheckAsk_spec {v1 : Int} {v2 : (List Nat)} {v3 : Int} {v4 : Int} {v5 : Int} {v6 : Int} (hr : ref05_CheckAsk v1 v2 v3 v4 = some (v5,v6)) : Spec (lim Tryz.prog) 19 [.agg [.v (.int .i64 v1),.list 1 (v2.map e_f),.v (.int .i64 v3),.v (.int .i64 v4)]] ⟨[.tuple [.v (.int .i64 v5),.v (.int .i64 v6)]],[]⟩:=by
  unfold ref05_CheckAsk at hr
  have T:=an y14 <| @e_f.eq_1
  apply Spec.fn Tryz.func19 rfl
  focus (simp [Tryz.f19]<;>exact rfl)
  focus
    refine wB T (g:=?_)
    obtain ⟨⟨v7,v8⟩,h1,hr⟩:=bs hr
    try dsimp only at hr
    apply TO.cal (wn T) rfl goFn18 (ref05_CheckResponse_spec h1) rfl rfl rfl
    repeat exact sd T
    refine wa_ T (g:=?_)
    rcases ifs hr with ⟨h2,hr⟩|⟨h2,hr⟩
    · have T:=an h2 T
      refine wa_ T (g:=?_)
      cases hr
      refine ⟨.inr rfl,_,(ry T),?_⟩
      exact wk_ T [] rfl .nil
    · have T:=an h2 T
      refine wA T (g:=?_)
      obtain ⟨v9,h3,hr⟩:=bs hr
      apply TO.cal (wn T) rfl goFn28 (base_Within_spec h3) rfl rfl rfl
      repeat exact sd T
      refine wa_ T (g:=?_)
      apply TO.pop1 (wn T) (pop_not rfl)
      repeat exact sd T
      refine wa_ T (g:=?_)
      rcases ifs hr with ⟨h4,hr⟩|⟨h4,hr⟩
      · have T:=an h4 T
        refine wA T (g:=?_)
        obtain ⟨v10,h5,hr⟩:=bs hr
        apply TO.cal (wn T) rfl goFn28 (base_Within_spec h5) rfl rfl rfl
        repeat exact sd T
        refine wa_ T (g:=?_)
        apply TO.pop1 (wn T) (pop_not rfl)
        repeat exact sd T
        refine wa_ T (g:=?_)
        rcases ifs hr with ⟨h6,hr⟩|⟨h6,hr⟩
        · have T:=an h6 T
          refine wa_ T (g:=?_)
          cases hr
          refine ⟨.inr rfl,_,(ry T),?_⟩
          exact wk_ T [] rfl .nil
        · have T:=an h6 T
          refine wa_ T (g:=?_)
          cases hr
          refine ⟨.inr rfl,_,(ry T),?_⟩
          exact wk_ T [] rfl .nil
      · have T:=an h4 T
        refine wa_ T (g:=?_)
        cases hr
        refine ⟨.inr rfl,_,(ry T),?_⟩
        exact wk_ T [] rfl .nil
  rfl

end Go.Rex

namespace Go.Rex
open Go.Proofs
open Go Go.Rex Go.RowKit
set_option maxRecDepth 100000
set_option maxHeartbeats 200000
theorem ref05_TimeErr_spec {v1 : Int} {v2 : Int} (hr : ref05_TimeErr v1 = some (v2)) : Spec (lim Tryz.prog) 44 [.v (.int .i64 v1)] ⟨[.v (.int .i64 v2)],[]⟩:=by
  unfold ref05_TimeErr at hr
  have T:=trivial
  apply Spec.fn Tryz.func44 rfl
  focus (simp [Tryz.f44]<;>exact rfl)
  focus
    refine wa_ T (g:=?_)
    obtain ⟨v3,h1,hr⟩:=bs hr
    apply TO.cal (wn T) rfl goFn28 (base_Within_spec h1) rfl rfl rfl
    repeat exact sd T
    refine wa_ T (g:=?_)
    apply TO.pop1 (wn T) (pop_not rfl)
    repeat exact sd T
    refine wa_ T (g:=?_)
    rcases ifs hr with ⟨h2,hr⟩|⟨h2,hr⟩
    · have T:=an h2 T
      refine wa_ T (g:=?_)
      cases hr
      refine ⟨.inr rfl,_,(ry T),?_⟩
      exact wk_ T [] rfl .nil
    · have T:=an h2 T
      refine wa_ T (g:=?_)
      cases hr
      refine ⟨.inr rfl,_,(ry T),?_⟩
      exact wk_ T [] rfl .nil
  rfl

end Go.Rex

namespace Go.Rex
open Go.Proofs
open Go Go.Rex Go.RowKit
set_option maxRecDepth 100000
set_option maxHeartbeats 200000
theorem base_Floor_spec {v1 : Int} {v2 : Int} {v3 : Int} (hr : base_Floor v1 v2 = some (v3)) : Spec (lim Tryz.prog) 84 [.v (.int .i64 v1),.v (.int .i64 v2)] ⟨[.v (.int .i64 v3)],[]⟩:=by
  unfold base_Floor at hr
  have T:=trivial
  apply Spec.fn Tryz.func84 rfl
  focus (simp [Tryz.f84]<;>exact rfl)
  focus
    refine wa_ T (g:=?_)
    by_cases h1 : v2 = 0
    · rw [if_pos h1] at hr
      cases hr
    · rw [if_neg h1] at hr
      have T:=an h1 T
      refine wa_ T (g:=?_)
      rcases ifs hr with ⟨h2,hr⟩|⟨h2,hr⟩
      · have T:=an h2 T
        refine wa_ T (g:=?_)
        cases hr
        refine ⟨.inr rfl,_,(ry T),?_⟩
        exact wk_ T [] rfl .nil
      · have T:=an h2 T
        refine wa_ T (g:=?_)
        cases hr
        refine ⟨.inr rfl,_,(ry T),?_⟩
        exact wk_ T [] rfl .nil
  rfl

end Go.Rex

namespace Go.Rex
open Go.Proofs
open Go Go.Rex Go.RowKit
set_option maxRecDepth 100000
set_option maxHeartbeats 200000
theorem base_Ceil_spec {v1 : Int} {v2 : Int} {v3 : Int} (hr : base_Ceil v1 v2 = some (v3)) : Spec (lim Tryz.prog) 66 [.v (.int .i64 v1),.v (.int .i64 v2)] ⟨[.v (.int .i64 v3)],[]⟩:=by
  unfold base_Ceil at hr
  have T:=trivial
  apply Spec.fn Tryz.func66 rfl
  focus (simp [Tryz.f66]<;>exact rfl)
  focus
    refine wa_ T (g:=?_)
    apply TO.pop1 (wn T) (pop_neg rfl)
    repeat exact sd T
    refine wa_ T (g:=?_)
    obtain ⟨v4,h1,hr⟩:=bs hr
    apply TO.cal (wn T) rfl goFn84 (base_Floor_spec h1) rfl rfl rfl
    repeat exact sd T
    refine wa_ T (g:=?_)
    apply TO.pop1 (wn T) (pop_neg rfl)
    repeat exact sd T
    refine wa_ T (g:=?_)
    cases hr
    refine ⟨.inr rfl,_,(ry T),?_⟩
    exact wr [] rfl .nil
  rfl

end Go.Rex

namespace Go.Rex
open Go.Proofs
open Go Go.Rex Go.RowKit
set_option maxRecDepth 100000
set_option maxHeartbeats 200000
theorem ref05_SampleAt_spec {v1 : Int} {v2 : Int} {v3 : Int} {v4 : Int} (hr : ref05_SampleAt v1 v2 = some (v3,v4)) : Spec (lim Tryz.prog) 20 [.v (.int .i64 v1),.v (.int .i64 v2)] ⟨[.tuple [.v (.int .i64 v3),.v (.int .i64 v4)]],[]⟩:=by
  unfold ref05_SampleAt at hr
  have T:=trivial
  apply Spec.fn Tryz.func20 rfl
  focus (simp [Tryz.f20]<;>exact rfl)
  focus
    refine wa_ T (g:=?_)
    obtain ⟨v5,h1,hr⟩:=bs hr
    apply TO.cal (wn T) rfl goFn64 (ref05_isRate_spec h1) rfl rfl rfl
    repeat exact sd T
    refine wa_ T (g:=?_)
    apply TO.pop1 (wn T) (pop_not rfl)
    repeat exact sd T
    refine wa_ T (g:=?_)
    rcases ifs hr with ⟨h2,hr⟩|⟨h2,hr⟩
    · have T:=an h2 T
      refine wa_ T (g:=?_)
      obtain ⟨v6,h3,hr⟩:=bs hr
      apply TO.cal (wn T) rfl goFn44 (ref05_TimeErr_spec h3) rfl rfl rfl
      repeat exact sd T
      refine wa_ T (g:=?_)
      rcases ifs hr with ⟨h4,hr⟩|⟨h4,hr⟩
      · have T:=an h4 T
        refine wa_ T (g:=?_)
        cases hr
        refine ⟨.inr rfl,_,(ry T),?_⟩
        exact wk_ T [] rfl .nil
      · have T:=an h4 T
        refine wa_ T (g:=?_)
        obtain ⟨v7,h5,hr⟩:=bs hr
        apply TO.cal (wn T) rfl goFn66 (base_Ceil_spec h5) rfl rfl rfl
        repeat exact sd T
        refine wa_ T (g:=?_)
        cases hr
        refine ⟨.inr rfl,_,(ry T),?_⟩
        exact wk_ T [] rfl .nil
    · have T:=an h2 T
      refine wa_ T (g:=?_)
      cases hr
      refine ⟨.inr rfl,_,(ry T),?_⟩
      exact wk_ T [] rfl .nil
  rfl

end Go.Rex

namespace Go.Rex
open Go.Proofs
open Go Go.Rex Go.RowKit
set_option maxRecDepth 100000

end Go.Rex

namespace Go.Rex
open Go.Proofs
open Go Go.Rex Go.RowKit
set_option maxRecDepth 100000
set_option maxHeartbeats 4000000
def y15:=an @ag24 <| an @ag26 <| an @cs24 <| an @cs26 <| an @fd26_0 <| an @ok24 <| @ok26
theorem law05_FigureResponses_law {v1 : Int} {v2 : (List Nat)} {v3 : Int} {v4 : Int} {v5 : Int} {v6 : Int} (hr : law05_FigureResponses v1 v2 v3 v4 v5 v6 = some true) {Fz : Nat → Prop} {h : List Blk} {vs : List Value} (hfz : ∀ n, Fz n → n < h.length) (hargs : VLs Fz h noL [.agg [.v (.int .i64 v1), .list 1 (v2.map e_f), .v (.int .i64 v3), .v (.int .i64 v4)], .v (.int .i64 v5), .v (.int .i64 v6)] vs)
    {B lo : Nat} {D : Nat → Prop} {m : NMap} {w : World} {args' : List Value} (hrel : Rel B lo D m h w) (hlo : lo ≤ h.length) (hargs' : VRs D m vs args') : Calls Tryz.prog 3 ⟨args'⟩ w (fun e w'=>e = .returned (.bool true) ∧ Below w.heap.size w w'):=by
  unfold law05_FigureResponses at hr
  have T:=an y15 <| @e_f.eq_1
  refine law_tex follows awake_true Tryz.func3 rfl (tm0:=.agg [.v (.int .i64 v1),.list 1 (v2.map e_f),.v (.int .i64 v3),.v (.int .i64 v4)] :: .v (.int .i64 v5) :: .v (.int .i64 v6) :: .junk :: .junk :: .junk :: .junk :: .junk :: .junk :: .junk :: .junk :: .junk :: .junk :: .junk :: .junk :: .junk :: .junk :: .junk :: .junk :: .junk :: .junk :: .junk :: .junk :: .junk :: .junk :: .junk :: .junk :: .junk :: .junk :: .junk :: .junk :: .junk :: .junk :: .junk :: .junk :: .junk :: .junk :: .junk :: .junk :: .junk :: .junk :: .junk :: .junk :: .junk :: .junk :: .junk :: .junk :: .junk :: .junk :: .junk :: .junk :: .junk :: .junk :: .junk :: .junk :: .junk :: .junk :: .junk :: .junk :: .junk :: .junk :: .junk :: .junk :: .junk :: .junk :: .junk :: .junk :: .junk :: .junk :: .junk :: .junk :: .junk :: .junk :: .junk :: .junk :: .junk :: .junk :: .junk :: .junk :: .junk :: .junk :: .junk :: .junk :: .junk :: .junk :: .junk :: .junk :: .junk :: .junk :: []) (by simp [Tryz.f3]<;>exact rfl) ?_ hfz hargs hrel hlo hargs'
  refine wb_ T (g:=?_)
  apply TO.cal (wn T) rfl goFn11 Spec.awake rfl rfl rfl
  repeat exact sd T
  refine wa_ T (g:=?_)
  apply TO.pop1 (wn T) (pop_not rfl)
  repeat exact sd T
  refine wA T (g:=?_)
  obtain ⟨v8,h1,hr⟩:=bs hr
  apply TO.cal (wn T) rfl goFn12 (Spec.ov (law05_Few_spec h1) (by decide)) rfl rfl rfl
  repeat exact sd T
  refine wa_ T (g:=?_)
  apply TO.pop1 (wn T) (pop_not rfl)
  repeat exact sd T
  refine wa_ T (g:=?_)
  rcases ifs hr with ⟨h2,hr⟩|⟨h2,hr⟩
  · have T:=an h2 T
    refine wA T (g:=?_)
    obtain ⟨⟨v9,v10⟩,h3,hr⟩:=bs hr
    try dsimp only at hr
    apply TO.cal (wn T) rfl goFn14 (Spec.ov (base_CopyResponse_spec h3) (by decide)) rfl rfl rfl
    repeat exact sd T
    refine wa_ T (g:=?_)
    obtain ⟨⟨v11,v12⟩,h4,hr⟩:=bs hr
    try dsimp only at hr
    apply TO.lok (wn T) rfl goFn13 (Spec.ov (figure_CheckResponse_spec h4) (by decide)) (vw T) rfl rfl (by simp [clTB,cl,e_f,e_i])
    repeat exact sd T
    refine wA T (g:=?_)
    obtain ⟨⟨v13,v14,v15,v16⟩,h5,hr⟩:=bs hr
    try dsimp only at hr
    apply TO.cal (wn T) rfl goFn16 (Spec.ov (ref05_Copy_spec h5) (by decide)) rfl rfl rfl
    repeat exact sd T
    refine wa_ T (g:=?_)
    obtain ⟨⟨v17,v18⟩,h6,hr⟩:=bs hr
    try dsimp only at hr
    apply TO.lok (wn T) rfl goFn15 (Spec.ov (figure_CheckAsk_spec h6) (by decide)) (vw T) rfl rfl (by simp [clTB,cl,e_f,e_i])
    repeat exact sd T
    refine wa_ T (g:=?_)
    obtain ⟨⟨v19,v20⟩,h7,hr⟩:=bs hr
    try dsimp only at hr
    apply TO.cal (wn T) rfl goFn17 (Spec.ov (figure_SampleAt_spec h7) (by decide)) rfl rfl rfl
    repeat exact sd T
    refine wA T (g:=?_)
    obtain ⟨⟨v21,v22⟩,h8,hr⟩:=bs hr
    try dsimp only at hr
    apply TO.cal (wn T) rfl goFn18 (Spec.ov (ref05_CheckResponse_spec h8) (by decide)) rfl rfl rfl
    repeat exact sd T
    refine wA T (g:=?_)
    obtain ⟨⟨v23,v24⟩,h9,hr⟩:=bs hr
    try dsimp only at hr
    apply TO.cal (wn T) rfl goFn19 (Spec.ov (ref05_CheckAsk_spec h9) (by decide)) rfl rfl rfl
    repeat exact sd T
    refine wa_ T (g:=?_)
    obtain ⟨⟨v25,v26⟩,h10,hr⟩:=bs hr
    try dsimp only at hr
    apply TO.cal (wn T) rfl goFn20 (Spec.ov (ref05_SampleAt_spec h10) (by decide)) rfl rfl rfl
    repeat exact sd T
    refine wa_ T (g:=?_)
    rcases ifs hr with ⟨h11,hr⟩|⟨h11,hr⟩
    · have T:=an h11 T
      refine wa_ T (g:=?_)
      rcases ifs hr with ⟨h12,hr⟩|⟨h12,hr⟩
      · have T:=an h12 T
        refine wa_ T (g:=?_)
        rcases ifs hr with ⟨h13,hr⟩|⟨h13,hr⟩
        · have T:=an h13 T
          refine wa_ T (g:=?_)
          rcases ifs hr with ⟨h14,hr⟩|⟨h14,hr⟩
          · have T:=an h14 T
            refine wa_ T (g:=?_)
            rcases ifs hr with ⟨h15,hr⟩|⟨h15,hr⟩
            · have T:=an h15 T
              refine wa_ T (g:=?_)
              exact lv T hr
            · have T:=an h15 T
              refine wa_ T (g:=?_)
              exact lv T hr
          · have T:=an h14 T
            refine wa_ T (g:=?_)
            exact lv T hr
        · have T:=an h13 T
          refine wa_ T (g:=?_)
          exact lv T hr
      · have T:=an h12 T
        refine wa_ T (g:=?_)
        exact lv T hr
    · have T:=an h11 T
      refine wa_ T (g:=?_)
      exact lv T hr
  · have T:=an h2 T
    refine wa_ T (g:=?_)
    exact lv T hr

end Go.Rex
