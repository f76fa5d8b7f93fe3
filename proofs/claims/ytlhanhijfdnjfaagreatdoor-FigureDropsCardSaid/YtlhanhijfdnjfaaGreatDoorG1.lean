/- Proofs that the program's functions do what these plain functions say. -/
import Derived.Test.YtlhanhijfdnjfaaGreatDoorGB
import Derived.Test.YtlhanhijfdnjfaaGreatDoorS
import Derived.Test.YtlhanhijfdnjfaaGreatDoorCZ
set_option linter.unusedSimpArgs false
set_option linter.unusedVariables false
set_option linter.defProp false
namespace Go.Rex
open Go.Proofs
open Go Go.Rex Go.RowKit
set_option maxRecDepth 100000
set_option maxHeartbeats 200000
def y1:=an @ag22 <| an @fd24_1 <| @so22
theorem law05_Few_spec {v1 : Int} {v2 : (List Nat)} {v3 : Bool} (hr : law05_Few v1 v2 = some (v3)) : Spec (lim Tryz.prog) 12 [.agg [.v (.int .i64 v1),.list 1 (v2.map e_f)]] ⟨[.v (.bool v3)],[]⟩:=by
  unfold law05_Few at hr
  have T:=an y1 <| @e_f.eq_1
  apply Spec.fn Tryz.func12 rfl
  focus (simp [Tryz.f12]<;>exact rfl)
  focus
    refine wD T (g:=?_)
    rcases ifs hr with ⟨h1,hr⟩|⟨h1,hr⟩
    · have T:=an h1 T
      refine wa_ T (g:=?_)
      cases hr
      refine ⟨.inr rfl,_,(ry T),?_⟩
      exact wk_ T [] rfl .nil
    · have T:=an h1 T
      refine wC T (g:=?_)
      rcases ifs hr with ⟨h2,hr⟩|⟨h2,hr⟩
      · have T:=an h2 T
        refine wC T (g:=?_)
        cases hr
        refine ⟨.inr rfl,_,(ry T),?_⟩
        exact wk_ T [] rfl .nil
      · have T:=an h2 T
        refine wa_ T (g:=?_)
        cases hr
        refine ⟨.inr rfl,_,(ry T),?_⟩
        exact wk_ T [] rfl .nil
  rfl

end Go.Rex

namespace Go.Rex
open Go.Proofs
open Go Go.Rex Go.RowKit
set_option maxRecDepth 100000
set_option maxHeartbeats 200000
def y2:=an @ag22 <| an @ag24 <| an @ag3 <| an @by99 <| an @cs24 <| an @cs99 <| an @fd24_0 <| an @fd24_1 <| an @ni22 <| an @ok24 <| an @so22 <| an @st24 <| an @zc24 <| @zc99
theorem base_CopyResponse_spec {v1 : Int} {v2 : (List Nat)} {v3 : Int} {v4 : (List Nat)} (hr : base_CopyResponse v1 v2 = some (v3,v4)) : Spec (lim Tryz.prog) 14 [.agg [.v (.int .i64 v1),.list 1 (v2.map e_f)]] ⟨[.agg [.v (.int .i64 v3),.lsl 0 0 v4.length]],[.rows 1 (v4.map e_f)]⟩:=by
  unfold base_CopyResponse at hr
  have T:=an y2 <| @e_f.eq_1
  apply Spec.fn Tryz.func14 rfl
  focus (simp [Tryz.f14]<;>exact rfl)
  focus
    repeat (first|(with_reducible first|refine mv ?_|refine TO.nil ?_)|((with_reducible first|apply TO.bf|apply TO.al);(repeat (focus (show _ = _;first|exact k1 rfl|exact k2 rfl|(simp only [zz,y2,e_f,Nat.reduceAdd,Nat.reduceMul,Nat.reduceLeDiff,Nat.reduceEqDiff]<;>exact rfl)|exact rfl)));(with_reducible apply TO.here))|((with_reducible apply TX.region);(focus (simp only [zl]<;>exact rfl));(focus rfl);(try dsimp only))|with_reducible refine TD.nil ?_|((with_reducible first|apply TD.fa|apply TD.ld );(repeat (focus (show _ = _;first|exact k1 rfl|exact k2 rfl|(simp only [zz,y2,e_f,Nat.reduceAdd,Nat.reduceMul,Nat.reduceLeDiff,Nat.reduceEqDiff,tfieldAddr,tload,rowOf,partT,List.getElem?_map]<;>exact rfl)|exact rfl)));(with_reducible refine TD.here ?_))|((with_reducible apply TD.ldF);(focus decide +kernel);(repeat (focus (show _ = _;first|exact k1 rfl|exact k2 rfl|(simp only [zz,y2,e_f,Nat.reduceAdd,Nat.reduceMul,Nat.reduceLeDiff,Nat.reduceEqDiff,tfieldAddr,tload,rowOf,partT,List.getElem?_map]<;>exact rfl)|exact rfl)));(with_reducible refine TD.here ?_))|((with_reducible apply TX.drawn);(focus decide +kernel);(focus (simp only [zl]<;>exact rfl));(focus exact rfl);(try dsimp only))|fail)
    apply TD.bl e_f ([] : List Nat) (wn T) rfl (by simp only [zz,y2,e_f,Nat.reduceAdd,Nat.reduceMul,Nat.reduceLeDiff,Nat.reduceEqDiff,tslice,tparts];exact rfl) rfl rfl
    repeat exact sd T
    repeat (first|(with_reducible first|refine mv ?_|refine TD.nil ?_)|((with_reducible first|apply TD.fa|apply TD.ld );(repeat (focus (show _ = _;first|exact k1 rfl|exact k2 rfl|(simp only [zz,y2,e_f,Nat.reduceAdd,Nat.reduceMul,Nat.reduceLeDiff,Nat.reduceEqDiff,tfieldAddr,tload,rowOf,partT,List.getElem?_map]<;>exact rfl)|exact rfl)));(with_reducible refine TD.here ?_))|((with_reducible apply TD.ldF);(focus decide +kernel);(repeat (focus (show _ = _;first|exact k1 rfl|exact k2 rfl|(simp only [zz,y2,e_f,Nat.reduceAdd,Nat.reduceMul,Nat.reduceLeDiff,Nat.reduceEqDiff,tfieldAddr,tload,rowOf,partT,List.getElem?_map]<;>exact rfl)|exact rfl)));(with_reducible refine TD.here ?_))|((with_reducible apply TX.drawn);(focus decide +kernel);(focus (simp only [zl]<;>exact rfl));(focus exact rfl);(try dsimp only))|fail)
    obtain ⟨v5,h1,hr⟩:=bs hr
    apply TD.apf (f:=e_f) (xs:=([] : List Nat)) (ys:=v2) (wn T) rfl rfl (by first|rfl|simp only [List.length_set]) rfl rfl so22 ni22 zc99 rfl (by rw [by99];exact h1) (fun _=>⟨rfl,rfl,rfl⟩) rfl
    repeat exact sd T
    refine wa_ T (g:=?_)
    cases hr
    refine ⟨.inr rfl,_,(ry T),?_⟩
    exact wr [some 1] rfl (.rows .nil rfl rfl)
  rfl

end Go.Rex

namespace Go.Rex
open Go.Proofs
open Go Go.Rex Go.RowKit
set_option maxRecDepth 100000
set_option maxHeartbeats 200000
def y3:=an @ag24 <| an @ag26 <| an @cs24 <| an @cs26 <| an @ok24 <| an @ok26 <| an @st26 <| @zc26
theorem figure_plain_spec {v1 : Int} {v2 : (List Nat)} {v3 : Int} {v4 : (List Nat)} (hr : figure_plain v1 v2 = some (v3,v4)) : Spec (lim Tryz.prog) 67 [.agg [.v (.int .i64 v1),.list 1 (v2.map e_f)]] ⟨[.agg [.v (.int .i64 v3),.list 1 (v4.map e_f),.v (.int .i64 0),.v (.int .i64 0)]],[]⟩:=by
  unfold figure_plain at hr
  have T:=an y3 <| @e_f.eq_1
  apply Spec.fn Tryz.func67 rfl
  focus (simp [Tryz.f67]<;>exact rfl)
  focus
    refine wB T (g:=?_)
    cases hr
    refine ⟨.inr rfl,_,(ry T),?_⟩
    exact wr [] rfl .nil
  rfl

end Go.Rex

namespace Go.Rex
open Go.Proofs
open Go Go.Rex Go.RowKit
set_option maxRecDepth 100000
set_option maxHeartbeats 200000
theorem figure_refuse_spec {v1 : Bool} {v2 : Int} {v3 : Int} (hr : figure_refuse v1 v2 = some (v3)) : Spec (lim Tryz.prog) 59 [.v (.bool v1),.v (.int .i64 v2)] ⟨[.v (.int .i64 v3)],[]⟩:=by
  unfold figure_refuse at hr
  have T:=trivial
  apply Spec.fn Tryz.func59 rfl
  focus (simp [Tryz.f59]<;>exact rfl)
  focus
    refine wa_ T (g:=?_)
    rcases ifs hr with ⟨h1,hr⟩|⟨h1,hr⟩
    · have T:=an h1 T
      refine wa_ T (g:=?_)
      cases hr
      refine ⟨.inr rfl,_,(ry T),?_⟩
      exact wk_ T [] rfl .nil
    · have T:=an h1 T
      refine wa_ T (g:=?_)
      cases hr
      refine ⟨.inr rfl,_,(ry T),?_⟩
      exact wk_ T [] rfl .nil
  rfl

end Go.Rex

namespace Go.Rex
open Go.Proofs
open Go Go.Rex Go.RowKit
set_option maxRecDepth 100000
set_option maxHeartbeats 200000
theorem figure_within_spec {v1 : Int} {v2 : Int} {v3 : Int} {v4 : Int} (hr : figure_within v1 v2 v3 = some (v4)) : Spec (lim Tryz.prog) 61 [.v (.int .i64 v1),.v (.int .i64 v2),.v (.int .i64 v3)] ⟨[.v (.int .i64 v4)],[]⟩:=by
  unfold figure_within at hr
  have T:=trivial
  apply Spec.fn Tryz.func61 rfl
  focus (simp [Tryz.f61]<;>exact rfl)
  focus
    refine wa_ T (g:=?_)
    rcases ifs hr with ⟨h1,hr⟩|⟨h1,hr⟩
    · have T:=an h1 T
      refine wa_ T (g:=?_)
      obtain ⟨v5,h2,hr⟩:=bs hr
      apply TO.cal (wn T) rfl goFn59 (figure_refuse_spec h2) rfl rfl rfl
      repeat exact sd T
      refine wa_ T (g:=?_)
      cases hr
      refine ⟨.inr rfl,_,(ry T),?_⟩
      exact wk_ T [] rfl .nil
    · have T:=an h1 T
      refine wa_ T (g:=?_)
      obtain ⟨v6,h3,hr⟩:=bs hr
      apply TO.cal (wn T) rfl goFn59 (figure_refuse_spec h3) rfl rfl rfl
      repeat exact sd T
      refine wa_ T (g:=?_)
      cases hr
      refine ⟨.inr rfl,_,(ry T),?_⟩
      exact wk_ T [] rfl .nil
  rfl

end Go.Rex

namespace Go.Rex
open Go.Proofs
open Go Go.Rex Go.RowKit
set_option maxRecDepth 100000
set_option maxHeartbeats 200000
theorem figure_rateError_spec {v1 : Int} {v2 : Int} (hr : figure_rateError v1 = some (v2)) : Spec (lim Tryz.prog) 58 [.v (.int .i64 v1)] ⟨[.v (.int .i64 v2)],[]⟩:=by
  unfold figure_rateError at hr
  have T:=trivial
  apply Spec.fn Tryz.func58 rfl
  focus (simp [Tryz.f58]<;>exact rfl)
  focus
    refine wa_ T (g:=?_)
    obtain ⟨v3,h1,hr⟩:=bs hr
    apply TO.cal (wn T) rfl goFn61 (figure_within_spec h1) rfl rfl rfl
    repeat exact sd T
    refine wa_ T (g:=?_)
    cases hr
    refine ⟨.inr rfl,_,(ry T),?_⟩
    exact wr [] rfl .nil
  rfl

end Go.Rex

namespace Go.Rex
open Go.Proofs
open Go Go.Rex Go.RowKit
set_option maxRecDepth 100000
set_option maxHeartbeats 200000
def y4:=an @ag29 <| an @cs29 <| an @ok29 <| an @so136 <| @wi64_0a1
theorem figure_firstError_spec {v1 : (List Int)} {v2 : Int} (hr : figure_firstError v1 = some (v2)) : Spec (lim Tryz.prog) 57 [.list 1 (v1.map e_i)] ⟨[.v (.int .i64 v2)],[]⟩:=by
  unfold figure_firstError at hr
  have T:=an y4 <| @e_i.eq_1
  apply Spec.fn Tryz.func57 rfl
  focus (simp [Tryz.f57]<;>exact rfl)
  focus
    refine wc_ T (g:=?_)
    obtain ⟨v7,h7,hr⟩:=bs hr
    refine TX.loopE (step:=figure_firstError_l1 v1) (x:=0) h7 (fun v3=>⟨.junk :: .junk :: .junk :: .junk :: .junk :: .list 1 (v1.map e_i) :: .v (.int .i64 (v1.length : Int)) :: .v (.int .i64 v3) :: .junk :: .junk :: .junk :: .junk :: .junk :: .junk :: .junk :: [],[]⟩) (fun e=>match e with|(.inl v5)=>(.ret,⟨.junk :: .junk :: .v (.int .i64 v5) :: .junk :: .junk :: .junk :: .junk :: .junk :: .junk :: .junk :: .junk :: .junk :: .junk :: .junk :: .junk :: [],[]⟩)|(.inr _)=>(.exit 0,⟨.junk :: .junk :: .junk :: .junk :: .junk :: .junk :: .junk :: .junk :: .junk :: .junk :: .junk :: .junk :: .junk :: .junk :: .junk :: [],[]⟩)) ?_ ?_ ?_ ?_
    · rintro v3 v0 hr
      dsimp only [figure_firstError_l1] at hr
      try dsimp only
      refine wa_ T (g:=?_)
      rcases ifs hr with ⟨h4,hr⟩|⟨h4,hr⟩
      · have T:=an h4 T
        refine wa_ T (g:=?_)
        obtain ⟨v6,h5,hr⟩:=bs hr
        have T:=an (gx e_i h5) T
        refine wA T (g:=?_)
        rcases ifs hr with ⟨h6,hr⟩|⟨h6,hr⟩
        · have T:=an h6 T
          refine wa_ T (g:=?_)
          cases hr
          refine ⟨rfl,?_⟩
          exact wk_ T [] rfl .nil
        · have T:=an h6 T
          refine wa_ T (g:=?_)
          cases hr
          refine ⟨rfl,?_⟩
          exact wk_ T [] rfl .nil
      · have T:=an h4 T
        refine wa_ T (g:=?_)
        cases hr
        refine ⟨rfl,?_⟩
        exact wk_ T [] rfl .nil
    · intro e h;rcases e with _|e<;>cases h
    · try dsimp only
      rcases v7 with v8|_
      · try dsimp only at hr
        try dsimp only
        refine wa_ T (g:=?_)
        cases hr
        refine ⟨.inr rfl,_,(ry T),?_⟩
        exact wr [] rfl .nil
      · try dsimp only at hr
        try dsimp only
        refine wa_ T (g:=?_)
        cases hr
        refine ⟨.inr rfl,_,(ry T),?_⟩
        exact wr [] rfl .nil
    · try dsimp only
      exact wr [] rfl .nil
  rfl

end Go.Rex

namespace Go.Rex
open Go.Proofs
open Go Go.Rex Go.RowKit
set_option maxRecDepth 100000
set_option maxHeartbeats 200000
def y5:=an @ar_141 <| @ex141
theorem math_Trunc_spec {v1 : Nat} {v2 : Nat} (hr : math_Trunc v1 = some (v2)) : Spec (lim Tryz.prog) 124 [.v (.float .f64 v1)] ⟨[.v (.float .f64 v2)],[]⟩:=by
  unfold math_Trunc at hr
  have T:=y5
  apply Spec.fn Tryz.func124 rfl
  focus (simp [Tryz.f124]<;>exact rfl)
  focus
    refine wa_ T (g:=?_)
    obtain ⟨v3,h1,hr⟩:=bs hr
    apply TO.tr (wn T) rfl ex141 ar_141 (by simp only [z1,z3,zl]<;>rfl) h1
    repeat exact sd T
    refine wa_ T (g:=?_)
    cases hr
    refine ⟨.inr rfl,_,(ry T),?_⟩
    exact wr [] rfl .nil
  rfl

end Go.Rex

namespace Go.Rex
open Go.Proofs
open Go Go.Rex Go.RowKit
set_option maxRecDepth 100000
set_option maxHeartbeats 200000
def y6:=an @ex153 <| @ex154
theorem math_Abs_spec {v1 : Nat} {v2 : Nat} (hr : math_Abs v1 = some (v2)) : Spec (lim Tryz.prog) 143 [.v (.float .f64 v1)] ⟨[.v (.float .f64 v2)],[]⟩:=by
  unfold math_Abs at hr
  have T:=y6
  apply Spec.fn Tryz.func143 rfl
  focus (simp [Tryz.f143]<;>exact rfl)
  focus
    refine wa_ T (g:=?_)
    obtain ⟨v3,h1,hr⟩:=bs hr
    apply TO.fb (wn T) rfl ex153 (by simp only [z1,z3,zl]<;>rfl) h1 rfl
    repeat exact sd T
    refine wa_ T (g:=?_)
    apply TO.pop1 (wn T) (pop_bits rfl rfl (by decide))
    repeat exact sd T
    refine wa_ T (g:=?_)
    apply TO.ex (wn T) rfl ex154 (by simp only [z1,z3,zl];exact rfl) rfl rfl (rfl) rfl rfl rfl
    repeat exact sd T
    refine wa_ T (g:=?_)
    cases hr
    refine ⟨.inr rfl,_,(ry T),?_⟩
    exact wr [] rfl .nil
  rfl

end Go.Rex

namespace Go.Rex
open Go.Proofs
open Go Go.Rex Go.RowKit
set_option maxRecDepth 100000
set_option maxHeartbeats 200000
theorem math_IsInf_spec {v1 : Nat} {v2 : Int} {v3 : Bool} (hr : math_IsInf v1 v2 = some (v3)) : Spec (lim Tryz.prog) 125 [.v (.float .f64 v1),.v (.int .i64 v2)] ⟨[.v (.bool v3)],[]⟩:=by
  unfold math_IsInf at hr
  have T:=trivial
  apply Spec.fn Tryz.func125 rfl
  focus (simp [Tryz.f125]<;>exact rfl)
  focus
    refine wa_ T (g:=?_)
    rcases ifs hr with ⟨h1,hr⟩|⟨h1,hr⟩
    · have T:=an h1 T
      refine wa_ T (g:=?_)
      obtain ⟨v4,h2,hr⟩:=bs hr
      apply TO.cal (wn T) rfl goFn143 (math_Abs_spec h2) rfl rfl rfl
      repeat exact sd T
      refine wa_ T (g:=?_)
      apply TO.pop1 (wn T) (pop_fcmp rfl rfl (by decide))
      repeat exact sd T
      refine wa_ T (g:=?_)
      cases hr
      refine ⟨.inr rfl,_,(ry T),?_⟩
      exact wk_ T [] rfl .nil
    · have T:=an h1 T
      refine wa_ T (g:=?_)
      rcases ifs hr with ⟨h3,hr⟩|⟨h3,hr⟩
      · have T:=an h3 T
        refine wa_ T (g:=?_)
        apply TO.pop1 (wn T) (pop_fneg rfl)
        repeat exact sd T
        refine wa_ T (g:=?_)
        apply TO.pop1 (wn T) (pop_fcmp rfl rfl (by decide))
        repeat exact sd T
        refine wa_ T (g:=?_)
        cases hr
        refine ⟨.inr rfl,_,(ry T),?_⟩
        exact wk_ T [] rfl .nil
      · have T:=an h3 T
        refine wa_ T (g:=?_)
        apply TO.pop1 (wn T) (pop_fcmp rfl rfl (by decide))
        repeat exact sd T
        refine wa_ T (g:=?_)
        cases hr
        refine ⟨.inr rfl,_,(ry T),?_⟩
        exact wk_ T [] rfl .nil
  rfl

end Go.Rex

namespace Go.Rex
open Go.Proofs
open Go Go.Rex Go.RowKit
set_option maxRecDepth 100000
set_option maxHeartbeats 200000
def y7:=an @un103 <| @un99
theorem figure_isWhole_spec {v1 : Nat} {v2 : Bool} (hr : figure_isWhole v1 = some (v2)) : Spec (lim Tryz.prog) 99 [.v (.float .f32 v1)] ⟨[.v (.bool v2)],[]⟩:=by
  unfold figure_isWhole at hr
  have T:=y7
  apply Spec.fn Tryz.func99 rfl
  focus (simp [Tryz.f99]<;>exact rfl)
  focus
    refine wa_ T (g:=?_)
    obtain ⟨v3,h1,hr⟩:=bs hr
    apply TO.pop1 (wn T) (cvt_float_float un99 un103 rfl h1)
    repeat exact sd T
    refine wa_ T (g:=?_)
    obtain ⟨v4,h2,hr⟩:=bs hr
    apply TO.cal (wn T) rfl goFn124 (math_Trunc_spec h2) rfl rfl rfl
    repeat exact sd T
    refine wa_ T (g:=?_)
    apply TO.pop1 (wn T) (pop_fcmp rfl rfl (by decide))
    repeat exact sd T
    refine wa_ T (g:=?_)
    rcases ifs hr with ⟨h3,hr⟩|⟨h3,hr⟩
    · have T:=an h3 T
      refine wa_ T (g:=?_)
      obtain ⟨v5,h4,hr⟩:=bs hr
      apply TO.cal (wn T) rfl goFn125 (math_IsInf_spec h4) rfl rfl rfl
      repeat exact sd T
      refine wa_ T (g:=?_)
      apply TO.pop1 (wn T) (pop_not rfl)
      repeat exact sd T
      refine wa_ T (g:=?_)
      cases hr
      refine ⟨.inr rfl,_,(ry T),?_⟩
      exact wk_ T [] rfl .nil
    · have T:=an h3 T
      refine wa_ T (g:=?_)
      cases hr
      refine ⟨.inr rfl,_,(ry T),?_⟩
      exact wk_ T [] rfl .nil
  rfl

end Go.Rex

namespace Go.Rex
open Go.Proofs
open Go Go.Rex Go.RowKit
set_option maxRecDepth 100000
set_option maxHeartbeats 200000
def y8:=an @cs29 <| an @so136 <| @zc29
theorem figure_sampleError_spec {v1 : Nat} {v2 : Int} (hr : figure_sampleError v1 = some (v2)) : Spec (lim Tryz.prog) 60 [.v (.float .f32 v1)] ⟨[.v (.int .i64 v2)],[]⟩:=by
  unfold figure_sampleError at hr
  have T:=an y8 <| @e_i.eq_1
  apply Spec.fn Tryz.func60 rfl
  focus (simp [Tryz.f60]<;>exact rfl)
  focus
    refine wa_ T (g:=?_)
    obtain ⟨v3,h1,hr⟩:=bs hr
    apply TO.cal (wn T) rfl goFn99 (figure_isWhole_spec h1) rfl rfl rfl
    repeat exact sd T
    refine wa_ T (g:=?_)
    apply TO.pop1 (wn T) (pop_not rfl)
    repeat exact sd T
    refine wa_ T (g:=?_)
    obtain ⟨v4,h2,hr⟩:=bs hr
    apply TO.cal (wn T) rfl goFn59 (figure_refuse_spec h2) rfl rfl rfl
    repeat exact sd T
    refine wa_ T (g:=?_)
    apply TO.pop1 (wn T) (pop_fcmp rfl rfl (by decide))
    repeat exact sd T
    refine wa_ T (g:=?_)
    rcases ifs hr with ⟨h3,hr⟩|⟨h3,hr⟩
    · have T:=an h3 T
      refine wa_ T (g:=?_)
      obtain ⟨v5,h4,hr⟩:=bs hr
      apply TO.cal (wn T) rfl goFn59 (figure_refuse_spec h4) rfl rfl rfl
      repeat exact sd T
      refine wa_ T (g:=?_)
      apply TO.bm e_i ([v4,v5] : List Int) (wn T) rfl (by simp only [zz,y8,e_i,Nat.reduceAdd,Nat.reduceMul,Nat.reduceLeDiff,Nat.reduceEqDiff,tslice,tparts,h3];exact rfl) rfl
      repeat exact sd T
      refine wa_ T (g:=?_)
      obtain ⟨v6,h5,hr⟩:=bs hr
      apply TO.cal (wn T) rfl goFn57 (figure_firstError_spec h5) rfl rfl rfl
      repeat exact sd T
      refine wa_ T (g:=?_)
      cases hr
      refine ⟨.inr rfl,_,(ry T),?_⟩
      exact wk_ T [] rfl .nil
    · have T:=an h3 T
      refine wa_ T (g:=?_)
      apply TO.pop1 (wn T) (pop_fcmp rfl rfl (by decide))
      repeat exact sd T
      refine wa_ T (g:=?_)
      obtain ⟨v7,h6,hr⟩:=bs hr
      apply TO.cal (wn T) rfl goFn59 (figure_refuse_spec h6) rfl rfl rfl
      repeat exact sd T
      refine wa_ T (g:=?_)
      apply TO.bm e_i ([v4,v7] : List Int) (wn T) rfl (by simp only [zz,y8,e_i,Nat.reduceAdd,Nat.reduceMul,Nat.reduceLeDiff,Nat.reduceEqDiff,tslice,tparts,h3];exact rfl) rfl
      repeat exact sd T
      refine wa_ T (g:=?_)
      obtain ⟨v8,h7,hr⟩:=bs hr
      apply TO.cal (wn T) rfl goFn57 (figure_firstError_spec h7) rfl rfl rfl
      repeat exact sd T
      refine wa_ T (g:=?_)
      cases hr
      refine ⟨.inr rfl,_,(ry T),?_⟩
      exact wk_ T [] rfl .nil
  rfl

end Go.Rex

namespace Go.Rex
open Go.Proofs
open Go Go.Rex Go.RowKit
set_option maxRecDepth 100000
set_option maxHeartbeats 1000000
def y9:=an @ag22 <| an @ag3 <| an @ag99 <| an @cs29 <| an @cs99 <| an @fd24_0 <| an @fd24_1 <| an @ok99 <| an @so136 <| an @so22 <| an @zc29 <| @wi64_0a1
theorem figure_CheckResponse_spec {v1 : Int} {v2 : (List Nat)} {v3 : Int} {v4 : Int} (hr : figure_CheckResponse v1 v2 = some (v3,v4)) : Spec (lim Tryz.prog) 13 [.agg [.v (.int .i64 v1),.list 1 (v2.map e_f)]] ⟨[.tuple [.v (.int .i64 v3),.v (.int .i64 v4)]],[]⟩:=by
  unfold figure_CheckResponse at hr
  have T:=an y9 <| an @e_f.eq_1 <| @e_i.eq_1
  apply Spec.fn Tryz.func13 rfl
  focus (simp [Tryz.f13]<;>exact rfl)
  focus
    refine wB T (g:=?_)
    obtain ⟨v5,h1,hr⟩:=bs hr
    apply TD.cal (wn T) rfl goFn58 (figure_rateError_spec h1) rfl rfl rfl
    repeat exact sd T
    refine wC T (g:=?_)
    obtain ⟨v6,h2,hr⟩:=bs hr
    apply TD.cal (wn T) rfl goFn59 (figure_refuse_spec h2) rfl rfl rfl
    repeat exact sd T
    refine wC T (g:=?_)
    obtain ⟨v7,h3,hr⟩:=bs hr
    apply TD.cal (wn T) rfl goFn59 (figure_refuse_spec h3) rfl rfl rfl
    repeat exact sd T
    refine wa_ T (g:=?_)
    apply TD.bm e_i ([v5,v6,v7] : List Int) (wn T) rfl (by simp only [zz,y9,e_f,e_i,Nat.reduceAdd,Nat.reduceMul,Nat.reduceLeDiff,Nat.reduceEqDiff,tslice,tparts];exact rfl) rfl
    repeat exact sd T
    refine wa_ T (g:=?_)
    obtain ⟨v8,h4,hr⟩:=bs hr
    apply TD.cal (wn T) rfl goFn57 (figure_firstError_spec h4) rfl rfl rfl
    repeat exact sd T
    refine wa_ T (g:=?_)
    rcases ifs hr with ⟨h5,hr⟩|⟨h5,hr⟩
    · have T:=an h5 T
      refine wa_ T (g:=?_)
      cases hr
      refine ⟨.inr rfl,_,(ry T),?_⟩
      exact wk_ T [] rfl .nil
    · have T:=an h5 T
      refine wC T (g:=?_)
      obtain ⟨v16,h14,hr⟩:=bs hr
      refine TX.loopE (step:=figure_CheckResponse_l1 v2) (x:=0) h14 (fun v9=>⟨.junk :: .junk :: .junk :: .junk :: .junk :: .junk :: .junk :: .junk :: .junk :: .junk :: .junk :: .junk :: .junk :: .junk :: .junk :: .junk :: .junk :: .junk :: .junk :: .junk :: .junk :: .junk :: .junk :: .junk :: .junk :: .junk :: .junk :: .list 1 (v2.map e_f) :: .v (.int .i64 (v2.length : Int)) :: .v (.int .i64 v9) :: .junk :: .junk :: .junk :: .junk :: .junk :: .junk :: .junk :: .junk :: .junk :: .junk :: .junk :: [],[]⟩) (fun e=>match e with|(.inl (v12,v13))=>(.ret,⟨.junk :: .junk :: .v (.int .i64 v12) :: .v (.int .i64 v13) :: .junk :: .junk :: .junk :: .junk :: .junk :: .junk :: .junk :: .junk :: .junk :: .junk :: .junk :: .junk :: .junk :: .junk :: .junk :: .junk :: .junk :: .junk :: .junk :: .junk :: .junk :: .junk :: .junk :: .junk :: .junk :: .junk :: .junk :: .junk :: .junk :: .junk :: .junk :: .junk :: .junk :: .junk :: .junk :: .junk :: .junk :: [],[]⟩)|(.inr _)=>(.exit 0,⟨.junk :: .junk :: .junk :: .junk :: .junk :: .junk :: .junk :: .junk :: .junk :: .junk :: .junk :: .junk :: .junk :: .junk :: .junk :: .junk :: .junk :: .junk :: .junk :: .junk :: .junk :: .junk :: .junk :: .junk :: .junk :: .junk :: .junk :: .junk :: .junk :: .junk :: .junk :: .junk :: .junk :: .junk :: .junk :: .junk :: .junk :: .junk :: .junk :: .junk :: .junk :: [],[]⟩)) ?_ ?_ ?_ ?_
      · rintro v9 v0 hr
        dsimp only [figure_CheckResponse_l1] at hr
        try dsimp only
        refine wa_ T (g:=?_)
        rcases ifs hr with ⟨h10,hr⟩|⟨h10,hr⟩
        · have T:=an h10 T
          refine wa_ T (g:=?_)
          obtain ⟨v14,h11,hr⟩:=bs hr
          have T:=an (gx e_f h11) T
          refine wA T (g:=?_)
          obtain ⟨v15,h12,hr⟩:=bs hr
          apply TO.cal (wn T) rfl goFn60 (figure_sampleError_spec h12) rfl rfl rfl
          repeat exact sd T
          refine wa_ T (g:=?_)
          rcases ifs hr with ⟨h13,hr⟩|⟨h13,hr⟩
          · have T:=an h13 T
            refine wa_ T (g:=?_)
            cases hr
            refine ⟨rfl,?_⟩
            exact wk_ T [] rfl .nil
          · have T:=an h13 T
            refine wa_ T (g:=?_)
            cases hr
            refine ⟨rfl,?_⟩
            exact wk_ T [] rfl .nil
        · have T:=an h10 T
          refine wa_ T (g:=?_)
          cases hr
          refine ⟨rfl,?_⟩
          exact wk_ T [] rfl .nil
      · intro e h;rcases e with _|e<;>cases h
      · try dsimp only
        rcases v16 with ⟨v17,v18⟩|_
        · try dsimp only at hr
          try dsimp only
          refine wa_ T (g:=?_)
          cases hr
          refine ⟨.inr rfl,_,(ry T),?_⟩
          exact wk_ T [] rfl .nil
        · try dsimp only at hr
          try dsimp only
          refine wa_ T (g:=?_)
          cases hr
          refine ⟨.inr rfl,_,(ry T),?_⟩
          exact wk_ T [] rfl .nil
      · try dsimp only
        exact wk_ T [] rfl .nil
  rfl

end Go.Rex

namespace Go.Rex
open Go.Proofs
open Go Go.Rex Go.RowKit
set_option maxRecDepth 100000
set_option maxHeartbeats 200000
def y10:=an @ag24 <| an @ag3 <| an @cs24 <| an @cs29 <| an @fd26_0 <| an @fd26_1 <| an @fd26_2 <| an @ok24 <| an @so136 <| @zc29
theorem figure_CheckAsk_spec {v1 : Int} {v2 : (List Nat)} {v3 : Int} {v4 : Int} {v5 : Int} {v6 : Int} (hr : figure_CheckAsk v1 v2 v3 v4 = some (v5,v6)) : Spec (lim Tryz.prog) 15 [.agg [.v (.int .i64 v1),.list 1 (v2.map e_f),.v (.int .i64 v3),.v (.int .i64 v4)]] ⟨[.tuple [.v (.int .i64 v5),.v (.int .i64 v6)]],[]⟩:=by
  unfold figure_CheckAsk at hr
  have T:=an y10 <| an @e_f.eq_1 <| @e_i.eq_1
  apply Spec.fn Tryz.func15 rfl
  focus (simp [Tryz.f15]<;>exact rfl)
  focus
    refine wB T (g:=?_)
    obtain ⟨⟨v7,v8⟩,h1,hr⟩:=bs hr
    try dsimp only at hr
    apply TO.cal (wn T) rfl goFn13 (figure_CheckResponse_spec h1) rfl rfl rfl
    repeat exact sd T
    refine wa_ T (g:=?_)
    rcases ifs hr with ⟨h2,hr⟩|⟨h2,hr⟩
    · have T:=an h2 T
      refine wa_ T (g:=?_)
      cases hr
      refine ⟨.inr rfl,_,(ry T),?_⟩
      exact wk_ T [] rfl .nil
    · have T:=an h2 T
      refine wA T (g:=?_)
      obtain ⟨v9,h3,hr⟩:=bs hr
      apply TD.cal (wn T) rfl goFn61 (figure_within_spec h3) rfl rfl rfl
      repeat exact sd T
      refine wA T (g:=?_)
      obtain ⟨v10,h4,hr⟩:=bs hr
      apply TD.cal (wn T) rfl goFn61 (figure_within_spec h4) rfl rfl rfl
      repeat exact sd T
      refine wa_ T (g:=?_)
      apply TD.bm e_i ([v9,v10] : List Int) (wn T) rfl (by simp only [zz,y10,e_f,e_i,Nat.reduceAdd,Nat.reduceMul,Nat.reduceLeDiff,Nat.reduceEqDiff,tslice,tparts,h2];exact rfl) rfl
      repeat exact sd T
      refine wa_ T (g:=?_)
      obtain ⟨v11,h5,hr⟩:=bs hr
      apply TD.cal (wn T) rfl goFn57 (figure_firstError_spec h5) rfl rfl rfl
      repeat exact sd T
      refine wa_ T (g:=?_)
      cases hr
      refine ⟨.inr rfl,_,(ry T),?_⟩
      exact wk_ T [] rfl .nil
  rfl

end Go.Rex

namespace Go.Rex
open Go.Proofs
open Go Go.Rex Go.RowKit
set_option maxRecDepth 100000
set_option maxHeartbeats 200000
def y11:=an @ag106 <| an @ag26 <| an @cs106 <| an @cs26 <| an @ok106 <| an @ok26 <| an @st106 <| @zc106
theorem figure_hear_spec {v1 : Int} {v2 : (List Nat)} {v3 : Int} {v4 : Int} {v5 : Int} {v6 : (List Nat)} {v7 : Int} {v8 : Int} {v9 : Int} (hr : figure_hear v1 v2 v3 v4 = some (v5,v6,v7,v8,v9)) : Spec (lim Tryz.prog) 68 [.agg [.v (.int .i64 v1),.list 1 (v2.map e_f),.v (.int .i64 v3),.v (.int .i64 v4)]] ⟨[.tuple [.agg [.v (.int .i64 v5),.list 1 (v6.map e_f),.v (.int .i64 v7),.v (.int .i64 v8)],.v (.int .i64 v9)]],[]⟩:=by
  unfold figure_hear at hr
  have T:=an y11 <| @e_f.eq_1
  apply Spec.fn Tryz.func68 rfl
  focus (simp [Tryz.f68]<;>exact rfl)
  focus
    refine wB T (g:=?_)
    obtain ⟨⟨v10,v11⟩,h1,hr⟩:=bs hr
    try dsimp only at hr
    apply TO.cal (wn T) rfl goFn15 (figure_CheckAsk_spec h1) rfl rfl rfl
    repeat exact sd T
    refine wA T (g:=?_)
    cases hr
    refine ⟨.inr rfl,_,(ry T),?_⟩
    exact wr [] rfl .nil
  rfl

end Go.Rex

namespace Go.Rex
open Go.Proofs
open Go Go.Rex Go.RowKit
set_option maxRecDepth 100000
set_option maxHeartbeats 200000
def y12:=an @ag22 <| an @fd106_0 <| an @fd24_1 <| an @fd26_0 <| @so22
theorem figure_heard_count_spec {v1 : Int} {v2 : (List Nat)} {v3 : Int} {v4 : Int} {v5 : Int} (hr : figure_heard_count v1 v2 v3 v4 = some (v5)) : Spec (lim Tryz.prog) 71 [.agg [.v (.int .i64 v1),.list 1 (v2.map e_f),.v (.int .i64 v3),.v (.int .i64 v4)]] ⟨[.v (.int .i64 v5)],[]⟩:=by
  unfold figure_heard_count at hr
  have T:=an y12 <| @e_f.eq_1
  apply Spec.fn Tryz.func71 rfl
  focus (simp [Tryz.f71]<;>exact rfl)
  focus
    refine wD T (g:=?_)
    cases hr
    refine ⟨.inr rfl,_,(ry T),?_⟩
    exact wr [] rfl .nil
  rfl

end Go.Rex

namespace Go.Rex
open Go.Proofs
open Go Go.Rex Go.RowKit
set_option maxRecDepth 100000
set_option maxHeartbeats 200000
def y13:=an @ag111 <| an @cs111 <| an @ok111 <| an @st111 <| an @st45 <| an @zc111 <| @zc45
theorem figure_between_spec {v1 : Int} {v2 : Int} {v3 : Int} {v4 : Int} (hr : figure_between v1 v2 = some (v3,v4)) : Spec (lim Tryz.prog) 102 [.v (.int .i64 v1),.v (.int .i64 v2)] ⟨[.agg [.v (.int .i64 v3),.v (.int .i64 v4)]],[]⟩:=by
  unfold figure_between at hr
  have T:=y13
  apply Spec.fn Tryz.func102 rfl
  focus (simp [Tryz.f102]<;>exact rfl)
  focus
    refine wa_ T (g:=?_)
    cases hr
    refine ⟨.inr rfl,_,(ry T),?_⟩
    exact wr [] rfl .nil
  rfl

end Go.Rex

namespace Go.Rex
open Go.Proofs
open Go Go.Rex Go.RowKit
set_option maxRecDepth 100000
set_option maxHeartbeats 200000
def y14:=an @ag111 <| an @ag3 <| an @cs111 <| an @fd106_0 <| an @fd26_2 <| an @ok111 <| @zc111
theorem figure_heard_behind_spec {v1 : Int} {v2 : (List Nat)} {v3 : Int} {v4 : Int} {v5 : Int} {v6 : Int} (hr : figure_heard_behind v1 v2 v3 v4 = some (v5,v6)) : Spec (lim Tryz.prog) 73 [.agg [.v (.int .i64 v1),.list 1 (v2.map e_f),.v (.int .i64 v3),.v (.int .i64 v4)]] ⟨[.agg [.v (.int .i64 v5),.v (.int .i64 v6)]],[]⟩:=by
  unfold figure_heard_behind at hr
  have T:=an y14 <| @e_f.eq_1
  apply Spec.fn Tryz.func73 rfl
  focus (simp [Tryz.f73]<;>exact rfl)
  focus
    refine wB T (g:=?_)
    obtain ⟨⟨v7,v8⟩,h1,hr⟩:=bs hr
    try dsimp only at hr
    apply TO.cal (wn T) rfl goFn102 (figure_between_spec h1) rfl rfl rfl
    repeat exact sd T
    refine wa_ T (g:=?_)
    cases hr
    refine ⟨.inr rfl,_,(ry T),?_⟩
    exact wr [] rfl .nil
  rfl

end Go.Rex

namespace Go.Rex
open Go.Proofs
open Go Go.Rex Go.RowKit
set_option maxRecDepth 100000
set_option maxHeartbeats 200000
def y15:=an @ag111 <| an @ag22 <| an @ag3 <| an @ag99 <| an @cs111 <| an @cs99 <| an @fd106_0 <| an @fd24_1 <| an @fd26_0 <| an @fd26_1 <| an @ok111 <| an @ok99 <| an @so22 <| an @un3 <| an @un99 <| @zc111
theorem figure_heard_square_spec {v1 : Int} {v2 : (List Nat)} {v3 : Int} {v4 : Int} {v5 : Int} {v6 : Int} {v7 : Int} (hr : figure_heard_square v1 v2 v3 v4 v5 = some (v6,v7)) : Spec (lim Tryz.prog) 101 [.agg [.v (.int .i64 v1),.list 1 (v2.map e_f),.v (.int .i64 v3),.v (.int .i64 v4)],.v (.int .i64 v5)] ⟨[.agg [.v (.int .i64 v6),.v (.int .i64 v7)]],[]⟩:=by
  unfold figure_heard_square at hr
  have T:=an y15 <| @e_f.eq_1
  apply Spec.fn Tryz.func101 rfl
  focus (simp [Tryz.f101]<;>exact rfl)
  focus
    refine wB T (g:=?_)
    obtain ⟨v8,h1,hr⟩:=bs hr
    have T:=an (gx e_f h1) T
    refine wA T (g:=?_)
    obtain ⟨v9,h2,hr⟩:=bs hr
    apply TO.pop1 (wn T) (cvt_float_int un99 un3 rfl h2)
    repeat exact sd T
    refine wa_ T (g:=?_)
    apply TO.pop1 (wn T) (pop_neg rfl)
    repeat exact sd T
    refine wa_ T (g:=?_)
    apply TO.pop1 (wn T) (pop_max rfl rfl)
    repeat exact sd T
    refine wA T (g:=?_)
    apply TD.pop1 (wn T) (pop_max rfl rfl)
    repeat exact sd T
    refine wA T (g:=?_)
    obtain ⟨⟨v10,v11⟩,h3,hr⟩:=bs hr
    try dsimp only at hr
    apply TO.cal (wn T) rfl goFn102 (figure_between_spec h3) rfl rfl rfl
    repeat exact sd T
    refine wa_ T (g:=?_)
    cases hr
    refine ⟨.inr rfl,_,(ry T),?_⟩
    exact wr [] rfl .nil
  rfl

end Go.Rex

namespace Go.Rex
open Go.Proofs
open Go Go.Rex Go.RowKit
set_option maxRecDepth 100000
set_option maxHeartbeats 200000
def y16:=an @ag111 <| an @ag3 <| an @cs111 <| an @fd111_0 <| an @fd45_0 <| an @fd45_1 <| an @ok111 <| @zc111
theorem figure_ends_plus_spec {v1 : Int} {v2 : Int} {v3 : Int} {v4 : Int} {v5 : Int} {v6 : Int} (hr : figure_ends_plus v1 v2 v3 v4 = some (v5,v6)) : Spec (lim Tryz.prog) 72 [.agg [.v (.int .i64 v1),.v (.int .i64 v2)],.agg [.v (.int .i64 v3),.v (.int .i64 v4)]] ⟨[.agg [.v (.int .i64 v5),.v (.int .i64 v6)]],[]⟩:=by
  unfold figure_ends_plus at hr
  have T:=y16
  apply Spec.fn Tryz.func72 rfl
  focus (simp [Tryz.f72]<;>exact rfl)
  focus
    refine wB T (g:=?_)
    obtain ⟨⟨v7,v8⟩,h1,hr⟩:=bs hr
    try dsimp only at hr
    apply TO.cal (wn T) rfl goFn102 (figure_between_spec h1) rfl rfl rfl
    repeat exact sd T
    refine wa_ T (g:=?_)
    cases hr
    refine ⟨.inr rfl,_,(ry T),?_⟩
    exact wr [] rfl .nil
  rfl

end Go.Rex

namespace Go.Rex
open Go.Proofs
open Go Go.Rex Go.RowKit
set_option maxRecDepth 100000
set_option maxHeartbeats 1000000
def y17:=an @ag106 <| an @ag111 <| an @by111 <| an @cs106 <| an @cs111 <| an @ok106 <| an @ok111 <| an @so117 <| @zc111
theorem figure_heard_sums_spec {v1 : Int} {v2 : (List Nat)} {v3 : Int} {v4 : Int} {v5 : (List (Int × Int))} (hr : figure_heard_sums v1 v2 v3 v4 = some (v5)) : Spec (lim Tryz.prog) 75 [.agg [.v (.int .i64 v1),.list 1 (v2.map e_f),.v (.int .i64 v3),.v (.int .i64 v4)]] ⟨[.lsl 0 0 v5.length],[.rows 2 (v5.map e_ii)]⟩:=by
  unfold figure_heard_sums at hr
  have T:=an y17 <| an @e_f.eq_1 <| @e_ii.eq_1
  apply Spec.fn Tryz.func75 rfl
  focus (simp [Tryz.f75]<;>exact rfl)
  focus
    refine wB T (g:=?_)
    obtain ⟨v6,h1,hr⟩:=bs hr
    apply TO.cal (wn T) rfl goFn71 (figure_heard_count_spec h1) rfl rfl rfl
    repeat exact sd T
    refine wa_ T (g:=?_)
    obtain ⟨v7,h2,hr⟩:=bs hr
    apply TO.mk e_ii h2 (wn T) rfl rfl so117 zc111 by111 rfl rfl rfl
    repeat exact sd T
    refine wA T (g:=?_)
    obtain ⟨v8,h3,hr⟩:=bs hr
    apply TD.cal (wn T) rfl goFn71 (figure_heard_count_spec h3) rfl rfl rfl
    repeat exact sd T
    refine wA T (g:=?_)
    obtain ⟨⟨v9,v10⟩,h4,hr⟩:=bs hr
    try dsimp only at hr
    apply TD.cal (wn T) rfl goFn73 (figure_heard_behind_spec h4) rfl rfl rfl
    repeat exact sd T
    refine wa_ T (g:=?_)
    obtain ⟨⟨v11,v12⟩,h5,hr⟩:=bs hr
    try dsimp only at hr
    have h5m:=tidx_map (f:=e_ii) h5
    have h5l:=getI_lt h5
    try simp only [List.length_set] at h5l
    have h5a:=getI_at h5
    have T:=an h5m T
    have T:=an h5l T
    have T:=an h5a T
    refine wa_ T (g:=?_)
    apply TD.sr e_ii v7 (v11,v12) (v9,v10) h5a (wn T) rfl rfl rfl rfl rfl ok111 (by rw [cs111];rfl) rfl rfl rfl rfl rfl
    repeat exact sd T
    refine wA T (g:=?_)
    obtain ⟨v13,h6,hr⟩:=bs hr
    apply TO.cal (wn T) rfl goFn71 (figure_heard_count_spec h6) rfl rfl rfl
    repeat exact sd T
    refine wa_ T (g:=?_)
    obtain ⟨v33,h17,hr⟩:=bs hr
    refine TX.loopE (step:=figure_heard_sums_l1 v1 v2 v3 v4) (x:=((v7.set v8.toNat (v9,v10)),(IntKind.i64.wrap (v13 - 1)))) h17 (fun (v14,v15)=>⟨.junk :: .fptr true [.v (.int .i64 v1),.list 1 (v2.map e_f),.v (.int .i64 v3),.v (.int .i64 v4)] 0 :: .junk :: .lsl 0 0 v14.length :: .v (.int .i64 v15) :: .junk :: .junk :: .junk :: .junk :: .junk :: .junk :: .junk :: .junk :: .junk :: .junk :: .junk :: .junk :: .junk :: .junk :: .junk :: .junk :: .junk :: .junk :: .junk :: .junk :: .junk :: .junk :: .junk :: .junk :: .junk :: .junk :: .junk :: .junk :: .junk :: .junk :: [],[.rows 2 (v14.map e_ii)]⟩) (fun v24=>(.exit 0,⟨.junk :: .junk :: .junk :: .lsl 0 0 v24.length :: .junk :: .junk :: .junk :: .junk :: .junk :: .junk :: .junk :: .junk :: .junk :: .junk :: .junk :: .junk :: .junk :: .junk :: .junk :: .junk :: .junk :: .junk :: .junk :: .junk :: .junk :: .junk :: .junk :: .junk :: .junk :: .junk :: .junk :: .junk :: .junk :: .junk :: .junk :: [],[.rows 2 (v24.map e_ii)]⟩)) ?_ ?_ ?_ ?_
    · rintro ⟨v14,v15⟩ v0 hr
      dsimp only [figure_heard_sums_l1] at hr
      try dsimp only
      refine wa_ T (g:=?_)
      rcases ifs hr with ⟨h12,hr⟩|⟨h12,hr⟩
      · have T:=an h12 T
        refine wa_ T (g:=?_)
        obtain ⟨⟨v25,v26⟩,h13,hr⟩:=bs hr
        try dsimp only at hr
        have h13m:=tidx_map (f:=e_ii) h13
        have h13l:=getI_lt h13
        try simp only [List.length_set] at h13l
        have h13a:=getI_at h13
        have T:=an h13m T
        have T:=an h13l T
        have T:=an h13a T
        refine wA T (g:=?_)
        obtain ⟨⟨v27,v28⟩,h14,hr⟩:=bs hr
        try dsimp only at hr
        apply TD.cal (wn T) rfl goFn101 (figure_heard_square_spec h14) rfl rfl rfl
        repeat exact sd T
        refine wa_ T (g:=?_)
        obtain ⟨⟨v29,v30⟩,h15,hr⟩:=bs hr
        try dsimp only at hr
        apply TD.cal (wn T) rfl goFn72 (figure_ends_plus_spec h15) rfl rfl rfl
        repeat exact sd T
        refine wa_ T (g:=?_)
        obtain ⟨⟨v31,v32⟩,h16,hr⟩:=bs hr
        try dsimp only at hr
        have h16m:=tidx_map (f:=e_ii) h16
        have h16l:=getI_lt h16
        try simp only [List.length_set] at h16l
        have h16a:=getI_at h16
        have T:=an h16m T
        have T:=an h16l T
        have T:=an h16a T
        refine wa_ T (g:=?_)
        apply TD.sr e_ii v14 (v31,v32) (v29,v30) h16a (wn T) rfl rfl rfl rfl rfl ok111 (by rw [cs111];rfl) rfl rfl rfl rfl rfl
        repeat exact sd T
        refine wa_ T (g:=?_)
        cases hr
        refine ⟨rfl,?_⟩
        exact wk_ T [some 0] rfl (.rows .nil rfl rfl)
      · have T:=an h12 T
        refine wa_ T (g:=?_)
        cases hr
        refine ⟨rfl,?_⟩
        exact wk_ T [some 0] rfl (.rows .nil rfl rfl)
    · intro e h;cases h
    · try dsimp only
      refine wa_ T (g:=?_)
      cases hr
      refine ⟨.inr rfl,_,(ry T),?_⟩
      exact wr [some 0] rfl (.rows .nil rfl rfl)
    · try dsimp only
      exact wr [some 0] rfl (.rows .nil rfl rfl)
  rfl

end Go.Rex

namespace Go.Rex
open Go.Proofs
open Go Go.Rex Go.RowKit
set_option maxRecDepth 100000
set_option maxHeartbeats 200000
def y18:=an @wi64_0a1 <| @wi64_1m10
theorem figure_tenTo_spec {v1 : Int} {v2 : Int} (hr : figure_tenTo v1 = some (v2)) : Spec (lim Tryz.prog) 105 [.v (.int .i64 v1)] ⟨[.v (.int .i64 v2)],[]⟩:=by
  unfold figure_tenTo at hr
  have T:=y18
  apply Spec.fn Tryz.func105 rfl
  focus (simp [Tryz.f105]<;>exact rfl)
  focus
    refine wa_ T (g:=?_)
    obtain ⟨v6,h3,hr⟩:=bs hr
    refine TX.loopE (step:=figure_tenTo_l1 v1) (x:=(1,0)) h3 (fun (v3,v4)=>⟨[.junk,.junk,.junk,.v (.int .i64 v3),.v (.int .i64 v1),.v (.int .i64 v4),.junk,.junk,.junk,.junk,.junk],[]⟩) (fun v5=>(.exit 0,⟨[.junk,.junk,.junk,.v (.int .i64 v5),.junk,.junk,.junk,.junk,.junk,.junk,.junk],[]⟩)) ?_ ?_ ?_ ?_
    · rintro ⟨v3,v4⟩ v0 hr
      dsimp only [figure_tenTo_l1] at hr
      try dsimp only
      refine wa_ T (g:=?_)
      rcases ifs hr with ⟨h2,hr⟩|⟨h2,hr⟩
      · have T:=an h2 T
        refine wa_ T (g:=?_)
        cases hr
        refine ⟨rfl,?_⟩
        exact wk_ T [] rfl .nil
      · have T:=an h2 T
        refine wa_ T (g:=?_)
        cases hr
        refine ⟨rfl,?_⟩
        exact wk_ T [] rfl .nil
    · intro e h;cases h
    · try dsimp only
      refine wa_ T (g:=?_)
      cases hr
      refine ⟨.inr rfl,_,(ry T),?_⟩
      exact wr [] rfl .nil
    · try dsimp only
      exact wr [] rfl .nil
  rfl

end Go.Rex

namespace Go.Rex
open Go.Proofs
open Go Go.Rex Go.RowKit
set_option maxRecDepth 100000
set_option maxHeartbeats 200000
theorem math_bits_Mul64_spec {v1 : Int} {v2 : Int} {v3 : Int} {v4 : Int} (hr : math_bits_Mul64 v1 v2 = some (v3,v4)) : Spec (lim Tryz.prog) 126 [.v (.int .u64 v1),.v (.int .u64 v2)] ⟨[.tuple [.v (.int .u64 v3),.v (.int .u64 v4)]],[]⟩:=by
  unfold math_bits_Mul64 at hr
  have T:=trivial
  apply Spec.fn Tryz.func126 rfl
  focus (simp [Tryz.f126]<;>exact rfl)
  focus
    refine wa_ T (g:=?_)
    apply TO.pop1 (wn T) (pop_bits rfl rfl (by decide))
    repeat exact sd T
    refine wa_ T (g:=?_)
    obtain ⟨v5,h1,hr⟩:=bs hr
    apply TO.pop1 (wn T) (pop_shift rfl rfl (by decide) (h1))
    repeat exact sd T
    refine wa_ T (g:=?_)
    apply TO.pop1 (wn T) (pop_bits rfl rfl (by decide))
    repeat exact sd T
    refine wa_ T (g:=?_)
    obtain ⟨v6,h2,hr⟩:=bs hr
    apply TO.pop1 (wn T) (pop_shift rfl rfl (by decide) (h2))
    repeat exact sd T
    refine wa_ T (g:=?_)
    obtain ⟨v7,h3,hr⟩:=bs hr
    apply TO.pop1 (wn T) (pop_shift rfl rfl (by decide) (h3))
    repeat exact sd T
    refine wa_ T (g:=?_)
    apply TO.pop1 (wn T) (pop_bits rfl rfl (by decide))
    repeat exact sd T
    refine wa_ T (g:=?_)
    obtain ⟨v8,h4,hr⟩:=bs hr
    apply TO.pop1 (wn T) (pop_shift rfl rfl (by decide) (h4))
    repeat exact sd T
    refine wa_ T (g:=?_)
    obtain ⟨v9,h5,hr⟩:=bs hr
    apply TO.pop1 (wn T) (pop_shift rfl rfl (by decide) (h5))
    repeat exact sd T
    refine wa_ T (g:=?_)
    cases hr
    refine ⟨.inr rfl,_,(ry T),?_⟩
    exact wr [] rfl .nil
  rfl

end Go.Rex

namespace Go.Rex
open Go.Proofs
open Go Go.Rex Go.RowKit
set_option maxRecDepth 100000
set_option maxHeartbeats 200000
def y19:=an @ag140 <| an @cs140 <| an @ok140 <| an @st140 <| an @un138 <| an @un3 <| @zc140
theorem figure_product_spec {v1 : Int} {v2 : Int} {v3 : Int} {v4 : Int} (hr : figure_product v1 v2 = some (v3,v4)) : Spec (lim Tryz.prog) 104 [.v (.int .i64 v1),.v (.int .i64 v2)] ⟨[.agg [.v (.int .u64 v3),.v (.int .u64 v4)]],[]⟩:=by
  unfold figure_product at hr
  have T:=y19
  apply Spec.fn Tryz.func104 rfl
  focus (simp [Tryz.f104]<;>exact rfl)
  focus
    refine wa_ T (g:=?_)
    apply TO.pop1 (wn T) (cvt_int_int un3 un138 rfl)
    repeat exact sd T
    refine wa_ T (g:=?_)
    apply TO.pop1 (wn T) (cvt_int_int un3 un138 rfl)
    repeat exact sd T
    refine wa_ T (g:=?_)
    obtain ⟨⟨v5,v6⟩,h1,hr⟩:=bs hr
    try dsimp only at hr
    apply TO.cal (wn T) rfl goFn126 (math_bits_Mul64_spec h1) rfl rfl rfl
    repeat exact sd T
    refine wa_ T (g:=?_)
    cases hr
    refine ⟨.inr rfl,_,(ry T),?_⟩
    exact wr [] rfl .nil
  rfl

end Go.Rex

namespace Go.Rex
open Go.Proofs
open Go Go.Rex Go.RowKit
set_option maxRecDepth 100000
set_option maxHeartbeats 200000
def y20:=an @ag138 <| an @fd140_0 <| @fd140_1
theorem figure_wide_isAtMost_spec {v1 : Int} {v2 : Int} {v3 : Int} {v4 : Int} {v5 : Bool} (hr : figure_wide_isAtMost v1 v2 v3 v4 = some (v5)) : Spec (lim Tryz.prog) 106 [.agg [.v (.int .u64 v1),.v (.int .u64 v2)],.agg [.v (.int .u64 v3),.v (.int .u64 v4)]] ⟨[.v (.bool v5)],[]⟩:=by
  unfold figure_wide_isAtMost at hr
  have T:=y20
  apply Spec.fn Tryz.func106 rfl
  focus (simp [Tryz.f106]<;>exact rfl)
  focus
    refine wB T (g:=?_)
    rcases ifs hr with ⟨h1,hr⟩|⟨h1,hr⟩
    · have T:=an h1 T
      refine wa_ T (g:=?_)
      cases hr
      refine ⟨.inr rfl,_,(ry T),?_⟩
      exact wk_ T [] rfl .nil
    · have T:=an h1 T
      refine wA T (g:=?_)
      rcases ifs hr with ⟨h2,hr⟩|⟨h2,hr⟩
      · have T:=an h2 T
        refine wA T (g:=?_)
        cases hr
        refine ⟨.inr rfl,_,(ry T),?_⟩
        exact wk_ T [] rfl .nil
      · have T:=an h2 T
        refine wa_ T (g:=?_)
        cases hr
        refine ⟨.inr rfl,_,(ry T),?_⟩
        exact wk_ T [] rfl .nil
  rfl

end Go.Rex

namespace Go.Rex
open Go.Proofs
open Go Go.Rex Go.RowKit
set_option maxRecDepth 100000
set_option maxHeartbeats 200000
theorem figure_isPassed_spec {v1 : Int} {v2 : Int} {v3 : Int} {v4 : Bool} (hr : figure_isPassed v1 v2 v3 = some (v4)) : Spec (lim Tryz.prog) 79 [.v (.int .i64 v1),.v (.int .i64 v2),.v (.int .i64 v3)] ⟨[.v (.bool v4)],[]⟩:=by
  unfold figure_isPassed at hr
  have T:=trivial
  apply Spec.fn Tryz.func79 rfl
  focus (simp [Tryz.f79]<;>exact rfl)
  focus
    refine wa_ T (g:=?_)
    obtain ⟨v5,h1,hr⟩:=bs hr
    apply TO.cal (wn T) rfl goFn105 (figure_tenTo_spec h1) rfl rfl rfl
    repeat exact sd T
    refine wa_ T (g:=?_)
    obtain ⟨v6,h2,hr⟩:=bs hr
    apply TO.cal (wn T) rfl goFn105 (figure_tenTo_spec h2) rfl rfl rfl
    repeat exact sd T
    refine wa_ T (g:=?_)
    obtain ⟨⟨v7,v8⟩,h3,hr⟩:=bs hr
    try dsimp only at hr
    apply TO.cal (wn T) rfl goFn104 (figure_product_spec h3) rfl rfl rfl
    repeat exact sd T
    refine wa_ T (g:=?_)
    obtain ⟨⟨v9,v10⟩,h4,hr⟩:=bs hr
    try dsimp only at hr
    apply TO.cal (wn T) rfl goFn104 (figure_product_spec h4) rfl rfl rfl
    repeat exact sd T
    refine wa_ T (g:=?_)
    obtain ⟨v11,h5,hr⟩:=bs hr
    apply TO.cal (wn T) rfl goFn106 (figure_wide_isAtMost_spec h5) rfl rfl rfl
    repeat exact sd T
    refine wa_ T (g:=?_)
    cases hr
    refine ⟨.inr rfl,_,(ry T),?_⟩
    exact wr [] rfl .nil
  rfl

end Go.Rex

namespace Go.Rex
open Go.Proofs
open Go Go.Rex Go.RowKit
set_option maxRecDepth 100000
set_option maxHeartbeats 200000
def y21:=an @ag117 <| an @ag3 <| an @cs111 <| an @fd111_0 <| an @fd45_0 <| an @ok111 <| @so117
theorem figure_FirstBelow_c1_4410_spec {v1 : Int} {v2 : Int} {v3 : (List (Int × Int))} {v4 : Int} {v5 : Bool} (hr : figure_FirstBelow_c1_4410 v1 v2 v3 v4 = some (v5)) : Spec (lim Tryz.prog) 78 [.agg [.v (.int .i64 v1),.v (.int .i64 v2)],.fptr true [.list 2 (v3.map e_ii)] 0,.fptr true [.v (.int .i64 v4)] 0] ⟨[.v (.bool v5)],[]⟩:=by
  unfold figure_FirstBelow_c1_4410 at hr
  have T:=an y21 <| @e_ii.eq_1
  apply Spec.fn Tryz.func78 rfl
  focus (simp [Tryz.f78]<;>exact rfl)
  focus
    refine wB T (g:=?_)
    obtain ⟨⟨v6,v7⟩,h1,hr⟩:=bs hr
    try dsimp only at hr
    have T:=an (gx e_ii h1) T
    refine wA T (g:=?_)
    obtain ⟨v8,h2,hr⟩:=bs hr
    apply TD.cal (wn T) rfl goFn79 (figure_isPassed_spec h2) rfl rfl rfl
    repeat exact sd T
    refine wa_ T (g:=?_)
    cases hr
    refine ⟨.inr rfl,_,(ry T),?_⟩
    exact wr [] rfl .nil
  rfl

end Go.Rex

namespace Go.Rex
open Go.Proofs
open Go Go.Rex Go.RowKit
set_option maxRecDepth 100000
set_option maxHeartbeats 200000
def y22:=an @ag111 <| an @cs111 <| an @ok111 <| an @so117 <| @wi64_0a1
theorem slices_IndexFunc_figure_ends_figure_ends_4dac_spec {v1 : (List (Int × Int))} {v2 : (List (Int × Int))} {v3 : Int} {v4 : Int} (hr : slices_IndexFunc_figure_ends_figure_ends_4dac v1 v2 v3 = some (v4)) : Spec (lim Tryz.prog) 77 [.list 2 (v1.map e_ii),.func 78 [] [.fptr true [.list 2 (v2.map e_ii)] 0,.fptr true [.v (.int .i64 v3)] 0]] ⟨[.v (.int .i64 v4)],[]⟩:=by
  unfold slices_IndexFunc_figure_ends_figure_ends_4dac at hr
  have T:=an y22 <| @e_ii.eq_1
  apply Spec.fn Tryz.func77 rfl
  focus (simp [Tryz.f77]<;>exact rfl)
  focus
    refine wc_ T (g:=?_)
    obtain ⟨v13,h9,hr⟩:=bs hr
    refine TX.loopE (step:=slices_IndexFunc_figure_ends_figure_ends_4dac_l1 v1 v2 v3) (x:=0) h9 (fun v5=>⟨.list 2 (v1.map e_ii) :: .func 78 [] [.fptr true [.list 2 (v2.map e_ii)] 0,.fptr true [.v (.int .i64 v3)] 0] :: .junk :: .junk :: .junk :: .junk :: .junk :: .v (.int .i64 (v1.length : Int)) :: .v (.int .i64 v5) :: .junk :: .junk :: .junk :: .junk :: .junk :: .junk :: .junk :: .junk :: .junk :: .junk :: [],[]⟩) (fun e=>match e with|(.inl v9)=>(.ret,⟨.junk :: .junk :: .junk :: .junk :: .v (.int .i64 v9) :: .junk :: .junk :: .junk :: .junk :: .junk :: .junk :: .junk :: .junk :: .junk :: .junk :: .junk :: .junk :: .junk :: .junk :: [],[]⟩)|(.inr _)=>(.exit 0,⟨.junk :: .junk :: .junk :: .junk :: .junk :: .junk :: .junk :: .junk :: .junk :: .junk :: .junk :: .junk :: .junk :: .junk :: .junk :: .junk :: .junk :: .junk :: .junk :: [],[]⟩)) ?_ ?_ ?_ ?_
    · rintro v5 v0 hr
      dsimp only [slices_IndexFunc_figure_ends_figure_ends_4dac_l1] at hr
      try dsimp only
      refine wa_ T (g:=?_)
      rcases ifs hr with ⟨h5,hr⟩|⟨h5,hr⟩
      · have T:=an h5 T
        refine wa_ T (g:=?_)
        obtain ⟨⟨v10,v11⟩,h6,hr⟩:=bs hr
        try dsimp only at hr
        have T:=an (gx e_ii h6) T
        refine wA T (g:=?_)
        obtain ⟨v12,h7,hr⟩:=bs hr
        apply TO.cal (wn T) rfl goFn78 (figure_FirstBelow_c1_4410_spec h7) rfl rfl rfl
        repeat exact sd T
        refine wa_ T (g:=?_)
        rcases ifs hr with ⟨h8,hr⟩|⟨h8,hr⟩
        · have T:=an h8 T
          refine wa_ T (g:=?_)
          cases hr
          refine ⟨rfl,?_⟩
          exact wk_ T [] rfl .nil
        · have T:=an h8 T
          refine wa_ T (g:=?_)
          cases hr
          refine ⟨rfl,?_⟩
          exact wk_ T [] rfl .nil
      · have T:=an h5 T
        refine wa_ T (g:=?_)
        cases hr
        refine ⟨rfl,?_⟩
        exact wk_ T [] rfl .nil
    · intro e h;rcases e with _|e<;>cases h
    · try dsimp only
      rcases v13 with v14|_
      · try dsimp only at hr
        try dsimp only
        refine wa_ T (g:=?_)
        cases hr
        refine ⟨.inr rfl,_,(ry T),?_⟩
        exact wr [] rfl .nil
      · try dsimp only at hr
        try dsimp only
        refine wa_ T (g:=?_)
        cases hr
        refine ⟨.inr rfl,_,(ry T),?_⟩
        exact wr [] rfl .nil
    · try dsimp only
      exact wr [] rfl .nil
  rfl

end Go.Rex

namespace Go.Rex
open Go.Proofs
open Go Go.Rex Go.RowKit
set_option maxRecDepth 100000
set_option maxHeartbeats 200000
def y23:=an @ag106 <| an @ag117 <| an @ag24 <| an @ag3 <| an @cs106 <| an @cs111 <| an @cs117 <| an @cs24 <| an @cs29 <| an @fd111_0 <| an @fd45_0 <| an @ok106 <| an @ok111 <| an @ok117 <| an @ok24 <| an @so117 <| an @so136 <| an @zc106 <| an @zc117 <| @zc29
theorem figure_FirstBelow_spec {v1 : Int} {v2 : (List Nat)} {v3 : Int} {v4 : Int} {v5 : Int} (hr : figure_FirstBelow v1 v2 v3 = some (v4,v5)) : Spec (lim Tryz.prog) 35 [.agg [.v (.int .i64 v1),.list 1 (v2.map e_f)],.v (.int .i64 v3)] ⟨[.tuple [.v (.int .i64 v4),.v (.int .i64 v5)]],[]⟩:=by
  unfold figure_FirstBelow at hr
  have T:=an y23 <| an @e_f.eq_1 <| an @e_i.eq_1 <| @e_ii.eq_1
  apply Spec.fn Tryz.func35 rfl
  focus (simp [Tryz.f35]<;>exact rfl)
  focus
    refine wB T (g:=?_)
    obtain ⟨⟨v6,v7⟩,h1,hr⟩:=bs hr
    try dsimp only at hr
    apply TO.cal (wn T) rfl goFn67 (figure_plain_spec h1) rfl rfl rfl
    repeat exact sd T
    refine wa_ T (g:=?_)
    obtain ⟨⟨v8,v9,v10,v11,v12⟩,h2,hr⟩:=bs hr
    try dsimp only at hr
    apply TO.cal (wn T) rfl goFn68 (figure_hear_spec h2) rfl rfl rfl
    repeat exact sd T
    refine wA T (g:=?_)
    obtain ⟨v13,h3,hr⟩:=bs hr
    apply TO.cal (wn T) rfl goFn61 (figure_within_spec h3) rfl rfl rfl
    repeat exact sd T
    refine wa_ T (g:=?_)
    apply TO.bm e_i ([v12,v13] : List Int) (wn T) rfl (by simp only [zz,y23,e_f,e_i,e_ii,Nat.reduceAdd,Nat.reduceMul,Nat.reduceLeDiff,Nat.reduceEqDiff,tslice,tparts];exact rfl) rfl
    repeat exact sd T
    refine wa_ T (g:=?_)
    obtain ⟨v14,h4,hr⟩:=bs hr
    apply TO.cal (wn T) rfl goFn57 (figure_firstError_spec h4) rfl rfl rfl
    repeat exact sd T
    refine wa_ T (g:=?_)
    rcases ifs hr with ⟨h5,hr⟩|⟨h5,hr⟩
    · have T:=an h5 T
      refine wa_ T (g:=?_)
      cases hr
      refine ⟨.inr rfl,_,(ry T),?_⟩
      exact wk_ T [] rfl .nil
    · have T:=an h5 T
      refine wA T (g:=?_)
      obtain ⟨v15,h6,hr⟩:=bs hr
      apply TO.cal (wn T) rfl goFn75 (figure_heard_sums_spec h6) rfl rfl rfl
      repeat exact sd T
      refine wA T (g:=?_)
      obtain ⟨⟨v16,v17⟩,h7,hr⟩:=bs hr
      try dsimp only at hr
      have T:=an (gx e_ii h7) T
      refine wA T (g:=?_)
      rcases ifs hr with ⟨h8,hr⟩|⟨h8,hr⟩
      · have T:=an h8 T
        refine wa_ T (g:=?_)
        cases hr
        refine ⟨.inr rfl,_,(ry T),?_⟩
        exact wk_ T [] rfl .nil
      · have T:=an h8 T
        refine wA T (g:=?_)
        apply TO.frz 1 rfl rfl
        repeat exact sd T
        refine wa_ T (g:=?_)
        apply TO.frz 2 rfl rfl
        repeat exact sd T
        refine wa_ T (g:=?_)
        obtain ⟨v18,h9,hr⟩:=bs hr
        apply TO.cal (wn T) rfl goFn77 (slices_IndexFunc_figure_ends_figure_ends_4dac_spec h9) rfl rfl rfl
        repeat exact sd T
        refine wa_ T (g:=?_)
        cases hr
        refine ⟨.inr rfl,_,(ry T),?_⟩
        exact wk_ T [] rfl .nil
  rfl

end Go.Rex

namespace Go.Rex
open Go.Proofs
open Go Go.Rex Go.RowKit
set_option maxRecDepth 100000
set_option maxHeartbeats 200000
theorem base_Within_spec {v1 : Int} {v2 : Int} {v3 : Int} {v4 : Bool} (hr : base_Within v1 v2 v3 = some (v4)) : Spec (lim Tryz.prog) 28 [.v (.int .i64 v1),.v (.int .i64 v2),.v (.int .i64 v3)] ⟨[.v (.bool v4)],[]⟩:=by
  unfold base_Within at hr
  have T:=trivial
  apply Spec.fn Tryz.func28 rfl
  focus (simp [Tryz.f28]<;>exact rfl)
  focus
    refine wa_ T (g:=?_)
    rcases ifs hr with ⟨h1,hr⟩|⟨h1,hr⟩
    · have T:=an h1 T
      refine wa_ T (g:=?_)
      cases hr
      refine ⟨.inr rfl,_,(ry T),?_⟩
      exact wk_ T [] rfl .nil
    · have T:=an h1 T
      refine wa_ T (g:=?_)
      cases hr
      refine ⟨.inr rfl,_,(ry T),?_⟩
      exact wk_ T [] rfl .nil
  rfl

end Go.Rex

namespace Go.Rex
open Go.Proofs
open Go Go.Rex Go.RowKit
set_option maxRecDepth 100000
set_option maxHeartbeats 200000
theorem ref05_isRate_spec {v1 : Int} {v2 : Bool} (hr : ref05_isRate v1 = some (v2)) : Spec (lim Tryz.prog) 64 [.v (.int .i64 v1)] ⟨[.v (.bool v2)],[]⟩:=by
  unfold ref05_isRate at hr
  have T:=trivial
  apply Spec.fn Tryz.func64 rfl
  focus (simp [Tryz.f64]<;>exact rfl)
  focus
    refine wa_ T (g:=?_)
    obtain ⟨v3,h1,hr⟩:=bs hr
    apply TO.cal (wn T) rfl goFn28 (base_Within_spec h1) rfl rfl rfl
    repeat exact sd T
    refine wa_ T (g:=?_)
    cases hr
    refine ⟨.inr rfl,_,(ry T),?_⟩
    exact wr [] rfl .nil
  rfl

end Go.Rex

namespace Go.Rex
open Go.Proofs
open Go Go.Rex Go.RowKit
set_option maxRecDepth 100000
set_option maxHeartbeats 1000000
def y24:=an @un103 <| @un3
theorem base_IsWhole_spec {v1 : Nat} {v2 : Bool} (hr : base_IsWhole v1 = some (v2)) : Spec (lim Tryz.prog) 65 [.v (.float .f64 v1)] ⟨[.v (.bool v2)],[]⟩:=by
  unfold base_IsWhole at hr
  have T:=y24
  apply Spec.fn Tryz.func65 rfl
  focus (simp [Tryz.f65]<;>exact rfl)
  focus
    refine wa_ T (g:=?_)
    apply TO.pop1 (wn T) (pop_fcmp rfl rfl (by decide))
    repeat exact sd T
    refine wa_ T (g:=?_)
    rcases ifs hr with ⟨h1,hr⟩|⟨h1,hr⟩
    · have T:=an h1 T
      refine wa_ T (g:=?_)
      cases hr
      refine ⟨.inr rfl,_,(ry T),?_⟩
      exact wk_ T [] rfl .nil
    · have T:=an h1 T
      refine wa_ T (g:=?_)
      obtain ⟨v3,h2,hr⟩:=bs hr
      apply TO.pop1 (wn T) (pop_farith rfl rfl (by decide) (h2))
      repeat exact sd T
      refine wa_ T (g:=?_)
      apply TO.pop1 (wn T) (pop_fcmp rfl rfl (by decide))
      repeat exact sd T
      refine wa_ T (g:=?_)
      rcases ifs hr with ⟨h3,hr⟩|⟨h3,hr⟩
      · have T:=an h3 T
        refine wa_ T (g:=?_)
        cases hr
        refine ⟨.inr rfl,_,(ry T),?_⟩
        exact wk_ T [] rfl .nil
      · have T:=an h3 T
        refine wa_ T (g:=?_)
        apply TO.pop1 (wn T) (pop_fcmp rfl rfl (by decide))
        repeat exact sd T
        refine wa_ T (g:=?_)
        rcases ifs hr with ⟨h4,hr⟩|⟨h4,hr⟩
        · have T:=an h4 T
          refine wa_ T (g:=?_)
          apply TO.pop1 (wn T) (pop_fcmp rfl rfl (by decide))
          repeat exact sd T
          refine wa_ T (g:=?_)
          apply TO.pop1 (wn T) (pop_not rfl)
          repeat exact sd T
          refine wa_ T (g:=?_)
          rcases ifs hr with ⟨h5,hr⟩|⟨h5,hr⟩
          · have T:=an h5 T
            refine wa_ T (g:=?_)
            obtain ⟨v4,h6,hr⟩:=bs hr
            apply TO.pop1 (wn T) (cvt_float_int un103 un3 rfl h6)
            repeat exact sd T
            refine wa_ T (g:=?_)
            apply TO.pop1 (wn T) (cvt_int_float un3 un103 rfl)
            repeat exact sd T
            refine wa_ T (g:=?_)
            apply TO.pop1 (wn T) (pop_fcmp rfl rfl (by decide))
            repeat exact sd T
            refine wa_ T (g:=?_)
            cases hr
            refine ⟨.inr rfl,_,(ry T),?_⟩
            exact wk_ T [] rfl .nil
          · have T:=an h5 T
            refine wa_ T (g:=?_)
            cases hr
            refine ⟨.inr rfl,_,(ry T),?_⟩
            exact wk_ T [] rfl .nil
        · have T:=an h4 T
          refine wa_ T (g:=?_)
          apply TO.pop1 (wn T) (pop_not rfl)
          repeat exact sd T
          refine wa_ T (g:=?_)
          cases hr
          refine ⟨.inr rfl,_,(ry T),?_⟩
          exact wk_ T [] rfl .nil
  rfl

end Go.Rex

namespace Go.Rex
open Go.Proofs
open Go Go.Rex Go.RowKit
set_option maxRecDepth 100000
set_option maxHeartbeats 1000000
def y25:=an @ag22 <| an @ag3 <| an @ag99 <| an @cs99 <| an @fd24_0 <| an @fd24_1 <| an @ok99 <| an @so22 <| an @un103 <| an @un99 <| @wi64_0a1
theorem ref05_CheckResponse_spec {v1 : Int} {v2 : (List Nat)} {v3 : Int} {v4 : Int} (hr : ref05_CheckResponse v1 v2 = some (v3,v4)) : Spec (lim Tryz.prog) 18 [.agg [.v (.int .i64 v1),.list 1 (v2.map e_f)]] ⟨[.tuple [.v (.int .i64 v3),.v (.int .i64 v4)]],[]⟩:=by
  unfold ref05_CheckResponse at hr
  have T:=an y25 <| @e_f.eq_1
  apply Spec.fn Tryz.func18 rfl
  focus (simp [Tryz.f18]<;>exact rfl)
  focus
    refine wB T (g:=?_)
    obtain ⟨v5,h1,hr⟩:=bs hr
    apply TO.cal (wn T) rfl goFn64 (ref05_isRate_spec h1) rfl rfl rfl
    repeat exact sd T
    refine wa_ T (g:=?_)
    apply TO.pop1 (wn T) (pop_not rfl)
    repeat exact sd T
    refine wa_ T (g:=?_)
    rcases ifs hr with ⟨h2,hr⟩|⟨h2,hr⟩
    · have T:=an h2 T
      refine wC T (g:=?_)
      rcases ifs hr with ⟨h3,hr⟩|⟨h3,hr⟩
      · have T:=an h3 T
        refine wa_ T (g:=?_)
        cases hr
        refine ⟨.inr rfl,_,(ry T),?_⟩
        exact wk_ T [] rfl .nil
      · have T:=an h3 T
        refine wC T (g:=?_)
        rcases ifs hr with ⟨h4,hr⟩|⟨h4,hr⟩
        · have T:=an h4 T
          refine wa_ T (g:=?_)
          cases hr
          refine ⟨.inr rfl,_,(ry T),?_⟩
          exact wk_ T [] rfl .nil
        · have T:=an h4 T
          refine wa_ T (g:=?_)
          obtain ⟨v15,h19,hr⟩:=bs hr
          refine TX.loopE (step:=ref05_CheckResponse_l1 v2) (x:=0) h19 (fun v6=>⟨.junk :: .fptr true [.v (.int .i64 v1),.list 1 (v2.map e_f)] 0 :: .junk :: .junk :: .v (.int .i64 v6) :: .junk :: .junk :: .junk :: .junk :: .junk :: .junk :: .junk :: .junk :: .junk :: .junk :: .junk :: .junk :: .junk :: .junk :: .junk :: .junk :: .junk :: .junk :: .junk :: .junk :: .junk :: .junk :: .junk :: .junk :: .junk :: .junk :: .junk :: .junk :: .junk :: .junk :: .junk :: .junk :: .junk :: .junk :: .junk :: .junk :: .junk :: [],[]⟩) (fun e=>match e with|(.inl (v10,v11))=>(.ret,⟨.junk :: .junk :: .v (.int .i64 v10) :: .v (.int .i64 v11) :: .junk :: .junk :: .junk :: .junk :: .junk :: .junk :: .junk :: .junk :: .junk :: .junk :: .junk :: .junk :: .junk :: .junk :: .junk :: .junk :: .junk :: .junk :: .junk :: .junk :: .junk :: .junk :: .junk :: .junk :: .junk :: .junk :: .junk :: .junk :: .junk :: .junk :: .junk :: .junk :: .junk :: .junk :: .junk :: .junk :: .junk :: .junk :: [],[]⟩)|(.inr _)=>(.exit 0,⟨.junk :: .junk :: .junk :: .junk :: .junk :: .junk :: .junk :: .junk :: .junk :: .junk :: .junk :: .junk :: .junk :: .junk :: .junk :: .junk :: .junk :: .junk :: .junk :: .junk :: .junk :: .junk :: .junk :: .junk :: .junk :: .junk :: .junk :: .junk :: .junk :: .junk :: .junk :: .junk :: .junk :: .junk :: .junk :: .junk :: .junk :: .junk :: .junk :: .junk :: .junk :: .junk :: [],[]⟩)) ?_ ?_ ?_ ?_
          · rintro v6 v0 hr
            dsimp only [ref05_CheckResponse_l1] at hr
            try dsimp only
            refine wC T (g:=?_)
            rcases ifs hr with ⟨h12,hr⟩|⟨h12,hr⟩
            · have T:=an h12 T
              refine wA T (g:=?_)
              obtain ⟨v12,h13,hr⟩:=bs hr
              have T:=an (gx e_f h13) T
              refine wA T (g:=?_)
              obtain ⟨v13,h14,hr⟩:=bs hr
              apply TO.pop1 (wn T) (cvt_float_float un99 un103 rfl h14)
              repeat exact sd T
              refine wa_ T (g:=?_)
              obtain ⟨v14,h15,hr⟩:=bs hr
              apply TO.cal (wn T) rfl goFn65 (base_IsWhole_spec h15) rfl rfl rfl
              repeat exact sd T
              refine wa_ T (g:=?_)
              apply TO.pop1 (wn T) (pop_not rfl)
              repeat exact sd T
              refine wa_ T (g:=?_)
              rcases ifs hr with ⟨h16,hr⟩|⟨h16,hr⟩
              · have T:=an h16 T
                refine wa_ T (g:=?_)
                apply TO.pop1 (wn T) (pop_fcmp rfl rfl (by decide))
                repeat exact sd T
                refine wa_ T (g:=?_)
                rcases ifs hr with ⟨h17,hr⟩|⟨h17,hr⟩
                · have T:=an h17 T
                  refine wa_ T (g:=?_)
                  cases hr
                  refine ⟨rfl,?_⟩
                  exact wk_ T [] rfl .nil
                · have T:=an h17 T
                  refine wa_ T (g:=?_)
                  apply TO.pop1 (wn T) (pop_fcmp rfl rfl (by decide))
                  repeat exact sd T
                  refine wa_ T (g:=?_)
                  rcases ifs hr with ⟨h18,hr⟩|⟨h18,hr⟩
                  · have T:=an h18 T
                    refine wa_ T (g:=?_)
                    cases hr
                    refine ⟨rfl,?_⟩
                    exact wk_ T [] rfl .nil
                  · have T:=an h18 T
                    refine wa_ T (g:=?_)
                    cases hr
                    refine ⟨rfl,?_⟩
                    exact wk_ T [] rfl .nil
              · have T:=an h16 T
                refine wa_ T (g:=?_)
                cases hr
                refine ⟨rfl,?_⟩
                exact wk_ T [] rfl .nil
            · have T:=an h12 T
              refine wa_ T (g:=?_)
              cases hr
              refine ⟨rfl,?_⟩
              exact wk_ T [] rfl .nil
          · intro e h;rcases e with _|e<;>cases h
          · try dsimp only
            rcases v15 with ⟨v16,v17⟩|_
            · try dsimp only at hr
              try dsimp only
              refine wa_ T (g:=?_)
              cases hr
              refine ⟨.inr rfl,_,(ry T),?_⟩
              exact wk_ T [] rfl .nil
            · try dsimp only at hr
              try dsimp only
              refine wa_ T (g:=?_)
              cases hr
              refine ⟨.inr rfl,_,(ry T),?_⟩
              exact wk_ T [] rfl .nil
          · try dsimp only
            exact wk_ T [] rfl .nil
    · have T:=an h2 T
      refine wa_ T (g:=?_)
      cases hr
      refine ⟨.inr rfl,_,(ry T),?_⟩
      exact wk_ T [] rfl .nil
  rfl

end Go.Rex

namespace Go.Rex
open Go.Proofs
open Go Go.Rex Go.RowKit
set_option maxRecDepth 100000
set_option maxHeartbeats 200000
def y26:=an @ag24 <| an @cs24 <| @ok24
theorem ref05_ResponseErr_spec {v1 : Int} {v2 : (List Nat)} {v3 : Int} (hr : ref05_ResponseErr v1 v2 = some (v3)) : Spec (lim Tryz.prog) 23 [.agg [.v (.int .i64 v1),.list 1 (v2.map e_f)]] ⟨[.v (.int .i64 v3)],[]⟩:=by
  unfold ref05_ResponseErr at hr
  have T:=an y26 <| @e_f.eq_1
  apply Spec.fn Tryz.func23 rfl
  focus (simp [Tryz.f23]<;>exact rfl)
  focus
    refine wB T (g:=?_)
    obtain ⟨⟨v4,v5⟩,h1,hr⟩:=bs hr
    try dsimp only at hr
    apply TO.cal (wn T) rfl goFn18 (ref05_CheckResponse_spec h1) rfl rfl rfl
    repeat exact sd T
    refine wa_ T (g:=?_)
    cases hr
    refine ⟨.inr rfl,_,(ry T),?_⟩
    exact wr [] rfl .nil
  rfl

end Go.Rex

namespace Go.Rex
open Go.Proofs
open Go Go.Rex Go.RowKit
set_option maxRecDepth 100000
set_option maxHeartbeats 200000
def y27:=an @ag24 <| an @ag26 <| an @cs24 <| an @cs26 <| an @ok24 <| an @ok26 <| an @st26 <| @zc26
theorem ref05_Plain_spec {v1 : Int} {v2 : (List Nat)} {v3 : Int} {v4 : (List Nat)} (hr : ref05_Plain v1 v2 = some (v3,v4)) : Spec (lim Tryz.prog) 41 [.agg [.v (.int .i64 v1),.list 1 (v2.map e_f)]] ⟨[.agg [.v (.int .i64 v3),.list 1 (v4.map e_f),.v (.int .i64 0),.v (.int .i64 0)]],[]⟩:=by
  unfold ref05_Plain at hr
  have T:=an y27 <| @e_f.eq_1
  apply Spec.fn Tryz.func41 rfl
  focus (simp [Tryz.f41]<;>exact rfl)
  focus
    refine wB T (g:=?_)
    cases hr
    refine ⟨.inr rfl,_,(ry T),?_⟩
    exact wr [] rfl .nil
  rfl

end Go.Rex

namespace Go.Rex
open Go.Proofs
open Go Go.Rex Go.RowKit
set_option maxRecDepth 100000
set_option maxHeartbeats 200000
theorem base_Size_spec {v1 : Int} {v2 : Int} (hr : base_Size v1 = some (v2)) : Spec (lim Tryz.prog) 103 [.v (.int .i64 v1)] ⟨[.v (.int .i64 v2)],[]⟩:=by
  unfold base_Size at hr
  have T:=trivial
  apply Spec.fn Tryz.func103 rfl
  focus (simp [Tryz.f103]<;>exact rfl)
  focus
    refine wa_ T (g:=?_)
    apply TO.pop1 (wn T) (pop_neg rfl)
    repeat exact sd T
    refine wa_ T (g:=?_)
    apply TO.pop1 (wn T) (pop_max rfl rfl)
    repeat exact sd T
    refine wa_ T (g:=?_)
    cases hr
    refine ⟨.inr rfl,_,(ry T),?_⟩
    exact wr [] rfl .nil
  rfl

end Go.Rex

namespace Go.Rex
open Go.Proofs
open Go Go.Rex Go.RowKit
set_option maxRecDepth 100000
set_option maxHeartbeats 200000
def y28:=an @ag22 <| an @ag3 <| an @ag45 <| an @ag99 <| an @cs45 <| an @cs99 <| an @fd24_1 <| an @fd26_0 <| an @fd26_1 <| an @ok45 <| an @ok99 <| an @so22 <| an @st45 <| an @un3 <| an @un99 <| @zc45
theorem ref05_square_spec {v1 : Int} {v2 : (List Nat)} {v3 : Int} {v4 : Int} {v5 : Int} {v6 : Int} {v7 : Int} (hr : ref05_square v1 v2 v3 v4 v5 = some (v6,v7)) : Spec (lim Tryz.prog) 74 [.agg [.v (.int .i64 v1),.list 1 (v2.map e_f),.v (.int .i64 v3),.v (.int .i64 v4)],.v (.int .i64 v5)] ⟨[.agg [.v (.int .i64 v6),.v (.int .i64 v7)]],[]⟩:=by
  unfold ref05_square at hr
  have T:=an y28 <| @e_f.eq_1
  apply Spec.fn Tryz.func74 rfl
  focus (simp [Tryz.f74]<;>exact rfl)
  focus
    refine wB T (g:=?_)
    obtain ⟨v8,h1,hr⟩:=bs hr
    have T:=an (gx e_f h1) T
    refine wA T (g:=?_)
    obtain ⟨v9,h2,hr⟩:=bs hr
    apply TO.pop1 (wn T) (cvt_float_int un99 un3 rfl h2)
    repeat exact sd T
    refine wa_ T (g:=?_)
    obtain ⟨v10,h3,hr⟩:=bs hr
    apply TO.cal (wn T) rfl goFn103 (base_Size_spec h3) rfl rfl rfl
    repeat exact sd T
    refine wA T (g:=?_)
    apply TD.pop1 (wn T) (pop_max rfl rfl)
    repeat exact sd T
    refine wA T (g:=?_)
    cases hr
    refine ⟨.inr rfl,_,(ry T),?_⟩
    exact wr [] rfl .nil
  rfl

end Go.Rex

namespace Go.Rex
open Go.Proofs
open Go Go.Rex Go.RowKit
set_option maxRecDepth 100000
set_option maxHeartbeats 200000
def y29:=an @ag22 <| an @ag26 <| an @ag3 <| an @ag45 <| an @cs26 <| an @cs3 <| an @cs45 <| an @fd24_1 <| an @fd26_0 <| an @fd26_2 <| an @fd42_0 <| an @fd42_1 <| an @fd45_0 <| an @fd45_1 <| an @ok26 <| an @ok3 <| an @ok45 <| an @so22 <| an @st45 <| @zc45
theorem ref05_EnergyWithin_spec {v1 : Int} {v2 : (List Nat)} {v3 : Int} {v4 : Int} {v5 : Int} {v6 : Int} {v7 : Int} {v8 : Int} (hr : ref05_EnergyWithin v1 v2 v3 v4 v5 v6 = some (v7,v8)) : Spec (lim Tryz.prog) 27 [.agg [.v (.int .i64 v1),.list 1 (v2.map e_f),.v (.int .i64 v3),.v (.int .i64 v4)],.agg [.v (.int .i64 v5),.v (.int .i64 v6)]] ⟨[.agg [.v (.int .i64 v7),.v (.int .i64 v8)]],[]⟩:=by
  unfold ref05_EnergyWithin at hr
  have T:=an y29 <| @e_f.eq_1
  apply Spec.fn Tryz.func27 rfl
  focus (simp [Tryz.f27]<;>exact rfl)
  focus
    refine wB T (g:=?_)
    obtain ⟨⟨v18,v19⟩,h5,hr⟩:=bs hr
    try dsimp only at hr
    refine TX.loopE (step:=ref05_EnergyWithin_l1 v1 v2 v3 v4 v6) (x:=(0,0,v5)) h5 (fun (v9,v10,v11)=>⟨.junk :: .junk :: .fptr true [.v (.int .i64 v1),.list 1 (v2.map e_f),.v (.int .i64 v3),.v (.int .i64 v4)] 0 :: .fptr true [.v (.int .i64 v5),.v (.int .i64 v6)] 0 :: .lptr 0 0 0 :: .lptr 1 0 0 :: .v (.int .i64 v11) :: .junk :: .junk :: .junk :: .junk :: .junk :: .junk :: .junk :: .junk :: .junk :: .junk :: .junk :: .junk :: .junk :: .junk :: .junk :: .junk :: .junk :: .junk :: .junk :: .junk :: .junk :: .junk :: .junk :: .junk :: .junk :: .junk :: .junk :: .junk :: .junk :: .junk :: .junk :: .junk :: .junk :: .junk :: .junk :: .junk :: .junk :: .junk :: [],[.var [.v (.int .i64 0),.v (.int .i64 0)],.var [.v (.int .i64 v9),.v (.int .i64 v10)]]⟩) (fun (v14,v15)=>(.exit 0,⟨.junk :: .junk :: .fptr true [.v (.int .i64 v1),.list 1 (v2.map e_f),.v (.int .i64 v3),.v (.int .i64 v4)] 0 :: .fptr true [.v (.int .i64 v5),.v (.int .i64 v6)] 0 :: .lptr 0 0 0 :: .lptr 1 0 0 :: .junk :: .junk :: .junk :: .junk :: .junk :: .junk :: .junk :: .junk :: .junk :: .junk :: .junk :: .junk :: .junk :: .junk :: .junk :: .junk :: .junk :: .junk :: .junk :: .junk :: .junk :: .junk :: .junk :: .junk :: .junk :: .junk :: .junk :: .junk :: .junk :: .junk :: .junk :: .junk :: .junk :: .junk :: .junk :: .junk :: .junk :: .junk :: .junk :: [],[.var [.v (.int .i64 0),.v (.int .i64 0)],.var [.v (.int .i64 v14),.v (.int .i64 v15)]]⟩)) ?_ ?_ ?_ ?_
    · rintro ⟨v9,v10,v11⟩ v0 hr
      dsimp only [ref05_EnergyWithin_l1] at hr
      try dsimp only
      refine wA T (g:=?_)
      rcases ifs hr with ⟨h3,hr⟩|⟨h3,hr⟩
      · have T:=an h3 T
        refine wA T (g:=?_)
        obtain ⟨⟨v16,v17⟩,h4,hr⟩:=bs hr
        try dsimp only at hr
        apply TO.cal (wn T) rfl goFn74 (ref05_square_spec h4) rfl rfl rfl
        repeat exact sd T
        refine wA T (g:=?_)
        cases hr
        refine ⟨rfl,?_⟩
        exact wk_ T [some 0,some 1] rfl (rv (rv .nil rfl) rfl)
      · have T:=an h3 T
        refine wa_ T (g:=?_)
        cases hr
        refine ⟨rfl,?_⟩
        exact wk_ T [some 0,some 1] rfl (rv (rv .nil rfl) rfl)
    · intro e h;cases h
    · try dsimp only
      refine wC T (g:=?_)
      rcases ifs hr with ⟨h6,hr⟩|⟨h6,hr⟩
      · have T:=an h6 T
        refine wA T (g:=?_)
        cases hr
        refine ⟨.inr rfl,_,(ry T),?_⟩
        exact wk_ T [] rfl .nil
      · have T:=an h6 T
        refine wA T (g:=?_)
        cases hr
        refine ⟨.inr rfl,_,(ry T),?_⟩
        exact wk_ T [] rfl .nil
    · try dsimp only
      exact wr [some 0,some 1] rfl (rv (rv .nil rfl) rfl)
  rfl

end Go.Rex

namespace Go.Rex
open Go.Proofs
open Go Go.Rex Go.RowKit
set_option maxRecDepth 100000
set_option maxHeartbeats 200000
def y30:=an @ag22 <| an @ag26 <| an @ag45 <| an @cs26 <| an @cs45 <| an @fd24_1 <| an @fd26_0 <| an @ok26 <| an @ok45 <| an @so22 <| an @st42 <| an @zc42 <| @zc45
theorem ref05_sum_spec {v1 : Int} {v2 : (List Nat)} {v3 : Int} {v4 : Int} {v5 : Int} {v6 : Int} {v7 : Int} (hr : ref05_sum v1 v2 v3 v4 v5 = some (v6,v7)) : Spec (lim Tryz.prog) 76 [.agg [.v (.int .i64 v1),.list 1 (v2.map e_f),.v (.int .i64 v3),.v (.int .i64 v4)],.v (.int .i64 v5)] ⟨[.agg [.v (.int .i64 v6),.v (.int .i64 v7)]],[]⟩:=by
  unfold ref05_sum at hr
  have T:=an y30 <| @e_f.eq_1
  apply Spec.fn Tryz.func76 rfl
  focus (simp [Tryz.f76]<;>exact rfl)
  focus
    refine wD T (g:=?_)
    obtain ⟨⟨v8,v9⟩,h1,hr⟩:=bs hr
    try dsimp only at hr
    apply TO.cal (wn T) rfl goFn27 (ref05_EnergyWithin_spec h1) rfl rfl rfl
    repeat exact sd T
    refine wa_ T (g:=?_)
    cases hr
    refine ⟨.inr rfl,_,(ry T),?_⟩
    exact wr [] rfl .nil
  rfl

end Go.Rex

namespace Go.Rex
open Go.Proofs
open Go Go.Rex Go.RowKit
set_option maxRecDepth 100000
set_option maxHeartbeats 200000
def y31:=an @ag22 <| an @ag26 <| an @by45 <| an @cs26 <| an @cs45 <| an @fd24_1 <| an @fd26_0 <| an @ni57 <| an @ok26 <| an @so22 <| an @so57 <| an @zc45 <| @wi64_0a1
theorem ref05_SumsWithin_spec {v1 : Int} {v2 : (List Nat)} {v3 : Int} {v4 : Int} {v5 : (List (Int × Int))} (hr : ref05_SumsWithin v1 v2 v3 v4 = some (v5)) : Spec (lim Tryz.prog) 34 [.agg [.v (.int .i64 v1),.list 1 (v2.map e_f),.v (.int .i64 v3),.v (.int .i64 v4)]] ⟨[.lsl 0 0 v5.length],[.rows 2 (v5.map e_ii)]⟩:=by
  unfold ref05_SumsWithin at hr
  have T:=an y31 <| an @e_f.eq_1 <| @e_ii.eq_1
  apply Spec.fn Tryz.func34 rfl
  focus (simp [Tryz.f34]<;>exact rfl)
  focus
    refine wb_ T (g:=?_)
    apply TX.vt (α:=(Int × Int)) e_ii 3 2 rfl
    repeat exact sd T
    with_reducible apply TX.here
    refine wa_ T (g:=?_)
    obtain ⟨v15,h7,hr⟩:=bs hr
    refine TX.loopE (step:=ref05_SumsWithin_l1 v1 v2 v3 v4) (x:=(([] : List (Int × Int)),0)) h7 (fun (v6,v7)=>⟨.junk :: .fptr true [.v (.int .i64 v1),.list 1 (v2.map e_f),.v (.int .i64 v3),.v (.int .i64 v4)] 0 :: .junk :: .lsl 0 0 v6.length :: .v (.int .i64 v7) :: .junk :: .junk :: .junk :: .junk :: .junk :: .junk :: .junk :: .junk :: .junk :: .junk :: .junk :: .junk :: .junk :: .junk :: .junk :: [],[.rows 2 (v6.map e_ii)]⟩) (fun v11=>(.exit 0,⟨.junk :: .junk :: .junk :: .lsl 0 0 v11.length :: .junk :: .junk :: .junk :: .junk :: .junk :: .junk :: .junk :: .junk :: .junk :: .junk :: .junk :: .junk :: .junk :: .junk :: .junk :: .junk :: [],[.rows 2 (v11.map e_ii)]⟩)) ?_ ?_ ?_ ?_
    · rintro ⟨v6,v7⟩ v0 hr
      dsimp only [ref05_SumsWithin_l1] at hr
      try dsimp only
      refine wC T (g:=?_)
      rcases ifs hr with ⟨h4,hr⟩|⟨h4,hr⟩
      · have T:=an h4 T
        refine wA T (g:=?_)
        obtain ⟨⟨v12,v13⟩,h5,hr⟩:=bs hr
        try dsimp only at hr
        apply TO.cal (wn T) rfl goFn76 (ref05_sum_spec h5) rfl rfl rfl
        repeat exact sd T
        refine wa_ T (g:=?_)
        apply TO.bm e_ii ([(v12,v13)] : List (Int × Int)) (wn T) rfl (by simp only [zz,y31,e_f,e_ii,Nat.reduceAdd,Nat.reduceMul,Nat.reduceLeDiff,Nat.reduceEqDiff,tslice,tparts,h4];exact rfl) rfl
        repeat exact sd T
        refine wa_ T (g:=?_)
        obtain ⟨v14,h6,hr⟩:=bs hr
        apply TO.ap (f:=e_ii) (xs:=v6) (ys:=([(v12,v13)] : List (Int × Int))) (wn T) rfl rfl (by first|rfl|simp only [List.length_set]) rfl rfl so57 ni57 zc45 rfl (by rw [by45];exact h6) (fun _=>⟨rfl,rfl,rfl⟩)
        repeat exact sd T
        refine wa_ T (g:=?_)
        cases hr
        refine ⟨rfl,?_⟩
        exact wk_ T [some 0] rfl (.rows .nil rfl rfl)
      · have T:=an h4 T
        refine wa_ T (g:=?_)
        cases hr
        refine ⟨rfl,?_⟩
        exact wk_ T [some 0] rfl (.rows .nil rfl rfl)
    · intro e h;cases h
    · try dsimp only
      refine wa_ T (g:=?_)
      cases hr
      refine ⟨.inr rfl,_,(ry T),?_⟩
      exact wr [some 0] rfl (.rows .nil rfl rfl)
    · try dsimp only
      exact wr [some 0] rfl (.rows .nil rfl rfl)
  rfl

end Go.Rex

namespace Go.Rex
open Go.Proofs
open Go Go.Rex Go.RowKit
set_option maxRecDepth 100000
set_option maxHeartbeats 200000
def y32:=an @ag24 <| an @ag3 <| an @by3 <| an @cs24 <| an @cs3 <| an @cs45 <| an @fd45_0 <| an @ni54 <| an @ok24 <| an @ok45 <| an @so54 <| an @so57 <| an @zc3 <| @wi64_0a1
theorem ref05_Sums_spec {v1 : Int} {v2 : (List Nat)} {v3 : (List Int)} (hr : ref05_Sums v1 v2 = some (v3)) : Spec (lim Tryz.prog) 32 [.agg [.v (.int .i64 v1),.list 1 (v2.map e_f)]] ⟨[.lsl 0 0 v3.length],[.rows 1 (v3.map e_i)]⟩:=by
  unfold ref05_Sums at hr
  have T:=an y32 <| an @e_f.eq_1 <| an @e_i.eq_1 <| @e_ii.eq_1
  apply Spec.fn Tryz.func32 rfl
  focus (simp [Tryz.f32]<;>exact rfl)
  focus
    refine wB T (g:=?_)
    obtain ⟨⟨v4,v5⟩,h1,hr⟩:=bs hr
    try dsimp only at hr
    apply TO.cal (wn T) rfl goFn41 (ref05_Plain_spec h1) rfl rfl rfl
    repeat exact sd T
    refine wa_ T (g:=?_)
    obtain ⟨v6,h2,hr⟩:=bs hr
    apply TO.cal (wn T) rfl goFn34 (ref05_SumsWithin_spec h2) rfl rfl rfl
    repeat exact sd T
    refine wa_ T (g:=?_)
    apply TX.vt (α:=Int) e_i 3 1 rfl
    repeat exact sd T
    with_reducible apply TX.here
    refine wa_ T (g:=?_)
    obtain ⟨v16,h9,hr⟩:=bs hr
    refine TX.loopE (step:=ref05_Sums_l1 v6) (x:=(([] : List Int),0)) h9 (fun (v7,v8)=>⟨.junk :: .junk :: .junk :: .lsl 0 0 v7.length :: .lsl 1 0 v6.length :: .v (.int .i64 v8) :: .junk :: .junk :: .junk :: .junk :: .junk :: .junk :: .junk :: .junk :: .junk :: .junk :: .junk :: .junk :: .junk :: .junk :: .junk :: .junk :: .junk :: .junk :: [],[.rows 1 (v7.map e_i),.rows 2 (v6.map e_ii)]⟩) (fun v12=>(.exit 0,⟨.junk :: .junk :: .junk :: .lsl 0 0 v12.length :: .junk :: .junk :: .junk :: .junk :: .junk :: .junk :: .junk :: .junk :: .junk :: .junk :: .junk :: .junk :: .junk :: .junk :: .junk :: .junk :: .junk :: .junk :: .junk :: .junk :: [],[.rows 1 (v12.map e_i)]⟩)) ?_ ?_ ?_ ?_
    · rintro ⟨v7,v8⟩ v0 hr
      dsimp only [ref05_Sums_l1] at hr
      try dsimp only
      refine wc_ T (g:=?_)
      rcases ifs hr with ⟨h6,hr⟩|⟨h6,hr⟩
      · have T:=an h6 T
        refine wa_ T (g:=?_)
        obtain ⟨⟨v13,v14⟩,h7,hr⟩:=bs hr
        try dsimp only at hr
        have h7m:=tidx_map (f:=e_ii) h7
        have h7l:=getI_lt h7
        try simp only [List.length_set] at h7l
        have h7a:=getI_at h7
        have T:=an h7m T
        have T:=an h7l T
        have T:=an h7a T
        refine wA T (g:=?_)
        apply TO.bm e_i ([v13] : List Int) (wn T) rfl (by simp only [zz,y32,e_f,e_i,e_ii,Nat.reduceAdd,Nat.reduceMul,Nat.reduceLeDiff,Nat.reduceEqDiff,tslice,tparts,h6,h7m,h7l,h7a];exact rfl) rfl
        repeat exact sd T
        refine wa_ T (g:=?_)
        obtain ⟨v15,h8,hr⟩:=bs hr
        apply TO.ap (f:=e_i) (xs:=v7) (ys:=([v13] : List Int)) (wn T) rfl rfl (by first|rfl|simp only [List.length_set]) rfl rfl so54 ni54 zc3 rfl (by rw [by3];exact h8) (fun _=>⟨rfl,rfl,rfl⟩)
        repeat exact sd T
        refine wa_ T (g:=?_)
        cases hr
        refine ⟨rfl,?_⟩
        exact wk_ T [some 0,some 1] rfl (.rows (.rows .nil rfl rfl) rfl rfl)
      · have T:=an h6 T
        refine wa_ T (g:=?_)
        cases hr
        refine ⟨rfl,?_⟩
        exact wk_ T [some 0] rfl (.rows .nil rfl rfl)
    · intro e h;cases h
    · try dsimp only
      refine wa_ T (g:=?_)
      cases hr
      refine ⟨.inr rfl,_,(ry T),?_⟩
      exact wr [some 0] rfl (.rows .nil rfl rfl)
    · try dsimp only
      exact wr [some 1,some 0] rfl (.rows (.rows .nil rfl rfl) rfl rfl)
  rfl

end Go.Rex

namespace Go.Rex
open Go.Proofs
open Go Go.Rex Go.RowKit
set_option maxRecDepth 100000
set_option maxHeartbeats 200000
def y33:=an @wi64_0a1 <| @wi64_10m1
theorem ref05_ten_spec {v1 : Int} {v2 : Int} (hr : ref05_ten v1 = some (v2)) : Spec (lim Tryz.prog) 107 [.v (.int .i64 v1)] ⟨[.v (.int .i64 v2)],[]⟩:=by
  unfold ref05_ten at hr
  have T:=y33
  apply Spec.fn Tryz.func107 rfl
  focus (simp [Tryz.f107]<;>exact rfl)
  focus
    refine wa_ T (g:=?_)
    obtain ⟨v6,h3,hr⟩:=bs hr
    refine TX.loopE (step:=ref05_ten_l1 v1) (x:=(1,0)) h3 (fun (v3,v4)=>⟨.v (.int .i64 v1) :: .junk :: .junk :: .v (.int .i64 v3) :: .v (.int .i64 v4) :: .junk :: .junk :: .junk :: .junk :: .junk :: .junk :: .junk :: .junk :: [],[]⟩) (fun v5=>(.exit 0,⟨.junk :: .junk :: .junk :: .v (.int .i64 v5) :: .junk :: .junk :: .junk :: .junk :: .junk :: .junk :: .junk :: .junk :: .junk :: [],[]⟩)) ?_ ?_ ?_ ?_
    · rintro ⟨v3,v4⟩ v0 hr
      dsimp only [ref05_ten_l1] at hr
      try dsimp only
      refine wa_ T (g:=?_)
      rcases ifs hr with ⟨h2,hr⟩|⟨h2,hr⟩
      · have T:=an h2 T
        refine wa_ T (g:=?_)
        cases hr
        refine ⟨rfl,?_⟩
        exact wk_ T [] rfl .nil
      · have T:=an h2 T
        refine wa_ T (g:=?_)
        cases hr
        refine ⟨rfl,?_⟩
        exact wk_ T [] rfl .nil
    · intro e h;cases h
    · try dsimp only
      refine wa_ T (g:=?_)
      cases hr
      refine ⟨.inr rfl,_,(ry T),?_⟩
      exact wr [] rfl .nil
    · try dsimp only
      exact wr [] rfl .nil
  rfl

end Go.Rex

namespace Go.Rex
open Go.Proofs
open Go Go.Rex Go.RowKit
set_option maxRecDepth 100000
set_option maxHeartbeats 200000
theorem base_Floor_spec {v1 : Int} {v2 : Int} {v3 : Int} (hr : base_Floor v1 v2 = some (v3)) : Spec (lim Tryz.prog) 84 [.v (.int .i64 v1),.v (.int .i64 v2)] ⟨[.v (.int .i64 v3)],[]⟩:=by
  unfold base_Floor at hr
  have T:=trivial
  apply Spec.fn Tryz.func84 rfl
  focus (simp [Tryz.f84]<;>exact rfl)
  focus
    refine wa_ T (g:=?_)
    by_cases h1 : v2 = 0
    · rw [if_pos h1] at hr
      cases hr
    · rw [if_neg h1] at hr
      have T:=an h1 T
      refine wa_ T (g:=?_)
      rcases ifs hr with ⟨h2,hr⟩|⟨h2,hr⟩
      · have T:=an h2 T
        refine wa_ T (g:=?_)
        cases hr
        refine ⟨.inr rfl,_,(ry T),?_⟩
        exact wk_ T [] rfl .nil
      · have T:=an h2 T
        refine wa_ T (g:=?_)
        cases hr
        refine ⟨.inr rfl,_,(ry T),?_⟩
        exact wk_ T [] rfl .nil
  rfl

end Go.Rex

namespace Go.Rex
open Go.Proofs
open Go Go.Rex Go.RowKit
set_option maxRecDepth 100000
set_option maxHeartbeats 200000
theorem base_Compare_spec {v1 : Int} {v2 : Int} {v3 : Int} {v4 : Int} {v5 : Int} (hr : base_Compare v1 v2 v3 v4 = some (v5)) : Spec (lim Tryz.prog) 47 [.v (.int .i64 v1),.v (.int .i64 v2),.v (.int .i64 v3),.v (.int .i64 v4)] ⟨[.v (.int .i64 v5)],[]⟩:=by
  unfold base_Compare at hr
  have T:=trivial
  apply Spec.fn Tryz.func47 rfl
  focus (simp [Tryz.f47]<;>exact rfl)
  focus
    refine wa_ T (g:=?_)
    obtain ⟨v15,h15,hr⟩:=bs hr
    refine TX.loopE (step:=base_Compare_l1) (x:=(v1,v2,v3,v4)) h15 (fun (v6,v7,v8,v9)=>⟨.v (.int .i64 v6) :: .v (.int .i64 v7) :: .v (.int .i64 v8) :: .v (.int .i64 v9) :: .junk :: .junk :: .junk :: .junk :: .junk :: .junk :: .junk :: .junk :: .junk :: .junk :: .junk :: .junk :: .junk :: .junk :: .junk :: .junk :: .junk :: .junk :: .junk :: .junk :: .junk :: .junk :: .junk :: .junk :: .junk :: .junk :: .junk :: .junk :: .junk :: .junk :: .junk :: .junk :: .junk :: .junk :: .junk :: .junk :: .junk :: .junk :: .junk :: .junk :: .junk :: .junk :: .junk :: [],[]⟩) (fun v12=>(.ret,⟨.junk :: .junk :: .junk :: .junk :: .junk :: .junk :: .junk :: .junk :: .v (.int .i64 v12) :: .junk :: .junk :: .junk :: .junk :: .junk :: .junk :: .junk :: .junk :: .junk :: .junk :: .junk :: .junk :: .junk :: .junk :: .junk :: .junk :: .junk :: .junk :: .junk :: .junk :: .junk :: .junk :: .junk :: .junk :: .junk :: .junk :: .junk :: .junk :: .junk :: .junk :: .junk :: .junk :: .junk :: .junk :: .junk :: .junk :: .junk :: .junk :: [],[]⟩)) ?_ ?_ ?_ ?_
    · rintro ⟨v6,v7,v8,v9⟩ v0 hr
      dsimp only [base_Compare_l1] at hr
      try dsimp only
      refine wa_ T (g:=?_)
      obtain ⟨v13,h8,hr⟩:=bs hr
      apply TO.cal (wn T) rfl goFn84 (base_Floor_spec h8) rfl rfl rfl
      repeat exact sd T
      refine wa_ T (g:=?_)
      obtain ⟨v14,h9,hr⟩:=bs hr
      apply TO.cal (wn T) rfl goFn84 (base_Floor_spec h9) rfl rfl rfl
      repeat exact sd T
      refine wa_ T (g:=?_)
      rcases ifs hr with ⟨h10,hr⟩|⟨h10,hr⟩
      · have T:=an h10 T
        refine wa_ T (g:=?_)
        cases hr
        refine ⟨rfl,?_⟩
        exact wk_ T [] rfl .nil
      · have T:=an h10 T
        refine wa_ T (g:=?_)
        rcases ifs hr with ⟨h11,hr⟩|⟨h11,hr⟩
        · have T:=an h11 T
          refine wa_ T (g:=?_)
          cases hr
          refine ⟨rfl,?_⟩
          exact wk_ T [] rfl .nil
        · have T:=an h11 T
          refine wa_ T (g:=?_)
          rcases ifs hr with ⟨h12,hr⟩|⟨h12,hr⟩
          · have T:=an h12 T
            refine wa_ T (g:=?_)
            rcases ifs hr with ⟨h13,hr⟩|⟨h13,hr⟩
            · have T:=an h13 T
              refine wa_ T (g:=?_)
              cases hr
              refine ⟨rfl,?_⟩
              exact wk_ T [] rfl .nil
            · have T:=an h13 T
              refine wa_ T (g:=?_)
              cases hr
              refine ⟨rfl,?_⟩
              exact wk_ T [] rfl .nil
          · have T:=an h12 T
            refine wa_ T (g:=?_)
            rcases ifs hr with ⟨h14,hr⟩|⟨h14,hr⟩
            · have T:=an h14 T
              refine wa_ T (g:=?_)
              cases hr
              refine ⟨rfl,?_⟩
              exact wk_ T [] rfl .nil
            · have T:=an h14 T
              refine wa_ T (g:=?_)
              cases hr
              refine ⟨rfl,?_⟩
              exact wk_ T [] rfl .nil
    · intro e h;cases h
    · try dsimp only
      refine wa_ T (g:=?_)
      cases hr
      refine ⟨.inr rfl,_,(ry T),?_⟩
      exact wr [] rfl .nil
    · try dsimp only
      exact wr [] rfl .nil
  rfl

end Go.Rex

namespace Go.Rex
open Go.Proofs
open Go Go.Rex Go.RowKit
set_option maxRecDepth 100000
set_option maxHeartbeats 200000
theorem ref05_passed_spec {v1 : Int} {v2 : Int} {v3 : Int} {v4 : Bool} (hr : ref05_passed v1 v2 v3 = some (v4)) : Spec (lim Tryz.prog) 80 [.v (.int .i64 v1),.v (.int .i64 v2),.v (.int .i64 v3)] ⟨[.v (.bool v4)],[]⟩:=by
  unfold ref05_passed at hr
  have T:=trivial
  apply Spec.fn Tryz.func80 rfl
  focus (simp [Tryz.f80]<;>exact rfl)
  focus
    refine wa_ T (g:=?_)
    obtain ⟨v5,h1,hr⟩:=bs hr
    apply TO.cal (wn T) rfl goFn107 (ref05_ten_spec h1) rfl rfl rfl
    repeat exact sd T
    refine wa_ T (g:=?_)
    rcases ifs hr with ⟨h2,hr⟩|⟨h2,hr⟩
    · have T:=an h2 T
      refine wa_ T (g:=?_)
      cases hr
      refine ⟨.inr rfl,_,(ry T),?_⟩
      exact wk_ T [] rfl .nil
    · have T:=an h2 T
      refine wa_ T (g:=?_)
      rcases ifs hr with ⟨h3,hr⟩|⟨h3,hr⟩
      · have T:=an h3 T
        refine wa_ T (g:=?_)
        cases hr
        refine ⟨.inr rfl,_,(ry T),?_⟩
        exact wk_ T [] rfl .nil
      · have T:=an h3 T
        refine wa_ T (g:=?_)
        apply TO.pop1 (wn T) (pop_max rfl rfl)
        repeat exact sd T
        refine wa_ T (g:=?_)
        obtain ⟨v6,h4,hr⟩:=bs hr
        apply TO.cal (wn T) rfl goFn47 (base_Compare_spec h4) rfl rfl rfl
        repeat exact sd T
        refine wa_ T (g:=?_)
        cases hr
        refine ⟨.inr rfl,_,(ry T),?_⟩
        exact wk_ T [] rfl .nil
  rfl

end Go.Rex

namespace Go.Rex
open Go.Proofs
open Go Go.Rex Go.RowKit
set_option maxRecDepth 100000
set_option maxHeartbeats 200000
def y34:=an @ag24 <| an @ag3 <| an @cs24 <| an @fd45_0 <| an @ok24 <| @wi64_0a1
theorem ref05_FirstBelow_spec {v1 : Int} {v2 : (List Nat)} {v3 : Int} {v4 : Int} (hr : ref05_FirstBelow v1 v2 v3 = some (v4)) : Spec (lim Tryz.prog) 36 [.agg [.v (.int .i64 v1),.list 1 (v2.map e_f)],.v (.int .i64 v3)] ⟨[.v (.int .i64 v4)],[]⟩:=by
  unfold ref05_FirstBelow at hr
  have T:=an y34 <| @e_f.eq_1
  apply Spec.fn Tryz.func36 rfl
  focus (simp [Tryz.f36]<;>exact rfl)
  focus
    refine wb_ T (g:=?_)
    obtain ⟨v25,h13,hr⟩:=bs hr
    refine TX.loopE (step:=ref05_FirstBelow_l1 v1 v2 v3) (x:=0) h13 (fun v5=>⟨.junk :: .v (.int .i64 v3) :: .fptr true [.v (.int .i64 v1),.list 1 (v2.map e_f)] 0 :: .junk :: .junk :: .v (.int .i64 v5) :: .junk :: .junk :: .junk :: .junk :: .junk :: .junk :: .junk :: .junk :: .junk :: .junk :: .junk :: .junk :: .junk :: .junk :: .junk :: [],[]⟩) (fun v15=>(.exit 0,⟨.junk :: .junk :: .junk :: .junk :: .junk :: .v (.int .i64 v15) :: .junk :: .junk :: .junk :: .junk :: .junk :: .junk :: .junk :: .junk :: .junk :: .junk :: .junk :: .junk :: .junk :: .junk :: .junk :: [],[]⟩)) ?_ ?_ ?_ ?_
    · rintro v5 v0 hr
      dsimp only [ref05_FirstBelow_l1] at hr
      try dsimp only
      refine wA T (g:=?_)
      obtain ⟨⟨v16,v17⟩,h7,hr⟩:=bs hr
      try dsimp only at hr
      apply TD.cal (wn T) rfl goFn41 (ref05_Plain_spec h7) rfl rfl rfl
      repeat exact sd T
      refine wa_ T (g:=?_)
      obtain ⟨⟨v18,v19⟩,h8,hr⟩:=bs hr
      try dsimp only at hr
      apply TD.cal (wn T) rfl goFn76 (ref05_sum_spec h8) rfl rfl rfl
      repeat exact sd T
      refine wA T (g:=?_)
      obtain ⟨⟨v20,v21⟩,h9,hr⟩:=bs hr
      try dsimp only at hr
      apply TD.cal (wn T) rfl goFn41 (ref05_Plain_spec h9) rfl rfl rfl
      repeat exact sd T
      refine wa_ T (g:=?_)
      obtain ⟨⟨v22,v23⟩,h10,hr⟩:=bs hr
      try dsimp only at hr
      apply TD.cal (wn T) rfl goFn76 (ref05_sum_spec h10) rfl rfl rfl
      repeat exact sd T
      refine wa_ T (g:=?_)
      obtain ⟨v24,h11,hr⟩:=bs hr
      apply TD.cal (wn T) rfl goFn80 (ref05_passed_spec h11) rfl rfl rfl
      repeat exact sd T
      refine wa_ T (g:=?_)
      apply TD.pop1 (wn T) (pop_not rfl)
      repeat exact sd T
      refine wa_ T (g:=?_)
      rcases ifs hr with ⟨h12,hr⟩|⟨h12,hr⟩
      · have T:=an h12 T
        refine wa_ T (g:=?_)
        cases hr
        refine ⟨rfl,?_⟩
        exact wk_ T [] rfl .nil
      · have T:=an h12 T
        refine wa_ T (g:=?_)
        cases hr
        refine ⟨rfl,?_⟩
        exact wk_ T [] rfl .nil
    · intro e h;cases h
    · try dsimp only
      refine wa_ T (g:=?_)
      cases hr
      refine ⟨.inr rfl,_,(ry T),?_⟩
      exact wr [] rfl .nil
    · try dsimp only
      exact wr [] rfl .nil
  rfl

end Go.Rex

namespace Go.Rex
open Go.Proofs
open Go Go.Rex Go.RowKit
set_option maxRecDepth 100000

end Go.Rex

namespace Go.Rex
open Go.Proofs
open Go Go.Rex Go.RowKit
set_option maxRecDepth 100000
set_option maxHeartbeats 4000000
def y35:=an @ag22 <| an @ag24 <| an @ag3 <| an @cs24 <| an @cs3 <| an @fd24_1 <| an @ok24 <| an @ok3 <| an @so22 <| @so54
theorem law05_FigureDrops_law {v1 : Int} {v2 : (List Nat)} {v3 : Int} (hr : law05_FigureDrops v1 v2 v3 = some true) {Fz : Nat → Prop} {h : List Blk} {vs : List Value} (hfz : ∀ n, Fz n → n < h.length) (hargs : VLs Fz h noL [.agg [.v (.int .i64 v1), .list 1 (v2.map e_f)], .v (.int .i64 v3)] vs)
    {B lo : Nat} {D : Nat → Prop} {m : NMap} {w : World} {args' : List Value} (hrel : Rel B lo D m h w) (hlo : lo ≤ h.length) (hargs' : VRs D m vs args') : Calls Tryz.prog 6 ⟨args'⟩ w (fun e w'=>e = .returned (.bool true) ∧ Below w.heap.size w w'):=by
  unfold law05_FigureDrops at hr
  have T:=an y35 <| an @e_f.eq_1 <| @e_i.eq_1
  refine law_tex follows awake_true Tryz.func6 rfl (tm0:=.agg [.v (.int .i64 v1),.list 1 (v2.map e_f)] :: .v (.int .i64 v3) :: .junk :: .junk :: .junk :: .junk :: .junk :: .junk :: .junk :: .junk :: .junk :: .junk :: .junk :: .junk :: .junk :: .junk :: .junk :: .junk :: .junk :: .junk :: .junk :: .junk :: .junk :: .junk :: .junk :: .junk :: .junk :: .junk :: .junk :: .junk :: .junk :: .junk :: .junk :: .junk :: .junk :: .junk :: .junk :: .junk :: .junk :: .junk :: .junk :: .junk :: .junk :: .junk :: .junk :: .junk :: .junk :: .junk :: .junk :: .junk :: .junk :: .junk :: .junk :: .junk :: .junk :: .junk :: .junk :: .junk :: .junk :: .junk :: .junk :: .junk :: .junk :: .junk :: .junk :: .junk :: .junk :: .junk :: .junk :: .junk :: .junk :: .junk :: .junk :: .junk :: .junk :: .junk :: .junk :: .junk :: .junk :: .junk :: .junk :: .junk :: []) (by simp [Tryz.f6]<;>exact rfl) ?_ hfz hargs hrel hlo hargs'
  refine wb_ T (g:=?_)
  apply TO.cal (wn T) rfl goFn11 Spec.awake rfl rfl rfl
  repeat exact sd T
  refine wa_ T (g:=?_)
  apply TO.pop1 (wn T) (pop_not rfl)
  repeat exact sd T
  refine wA T (g:=?_)
  obtain ⟨v5,h1,hr⟩:=bs hr
  apply TO.cal (wn T) rfl goFn12 (Spec.ov (law05_Few_spec h1) (by decide)) rfl rfl rfl
  repeat exact sd T
  refine wa_ T (g:=?_)
  apply TO.pop1 (wn T) (pop_not rfl)
  repeat exact sd T
  refine wa_ T (g:=?_)
  rcases ifs hr with ⟨h2,hr⟩|⟨h2,hr⟩
  · have T:=an h2 T
    refine wA T (g:=?_)
    obtain ⟨⟨v6,v7⟩,h3,hr⟩:=bs hr
    try dsimp only at hr
    apply TO.cal (wn T) rfl goFn14 (Spec.ov (base_CopyResponse_spec h3) (by decide)) rfl rfl rfl
    repeat exact sd T
    refine wa_ T (g:=?_)
    obtain ⟨⟨v8,v9⟩,h4,hr⟩:=bs hr
    try dsimp only at hr
    apply TO.lok (wn T) rfl goFn35 (Spec.ov (figure_FirstBelow_spec h4) (by decide)) (vw T) rfl rfl (by simp [clTB,cl,e_f,e_i,e_ii])
    repeat exact sd T
    refine wA T (g:=?_)
    obtain ⟨v10,h5,hr⟩:=bs hr
    apply TO.cal (wn T) rfl goFn23 (Spec.ov (ref05_ResponseErr_spec h5) (by decide)) rfl rfl rfl
    repeat exact sd T
    refine wa_ T (g:=?_)
    rcases ifs hr with ⟨h6,hr⟩|⟨h6,hr⟩
    · have T:=an h6 T
      refine wa_ T (g:=?_)
      obtain ⟨v11,h7,hr⟩:=bs hr
      apply TO.cal (wn T) rfl goFn28 (Spec.ov (base_Within_spec h7) (by decide)) rfl rfl rfl
      repeat exact sd T
      refine wa_ T (g:=?_)
      apply TO.pop1 (wn T) (pop_not rfl)
      repeat exact sd T
      refine wa_ T (g:=?_)
      rcases ifs hr with ⟨h8,hr⟩|⟨h8,hr⟩
      · have T:=an h8 T
        refine wA T (g:=?_)
        obtain ⟨v12,h9,hr⟩:=bs hr
        apply TO.cal (wn T) rfl goFn32 (Spec.ov (ref05_Sums_spec h9) (by decide)) rfl rfl rfl
        repeat exact sd T
        refine wa_ T (g:=?_)
        obtain ⟨v13,h10,hr⟩:=bs hr
        have T:=an (gx e_i h10) T
        refine wA T (g:=?_)
        rcases ifs hr with ⟨h11,hr⟩|⟨h11,hr⟩
        · have T:=an h11 T
          refine wa_ T (g:=?_)
          rcases ifs hr with ⟨h12,hr⟩|⟨h12,hr⟩
          · have T:=an h12 T
            refine wa_ T (g:=?_)
            exact lv T hr
          · have T:=an h12 T
            refine wa_ T (g:=?_)
            exact lv T hr
        · have T:=an h11 T
          refine wa_ T (g:=?_)
          rcases ifs hr with ⟨h13,hr⟩|⟨h13,hr⟩
          · have T:=an h13 T
            refine wa_ T (g:=?_)
            rcases ifs hr with ⟨h14,hr⟩|⟨h14,hr⟩
            · have T:=an h14 T
              refine wa_ T (g:=?_)
              exact lv T hr
            · have T:=an h14 T
              refine wa_ T (g:=?_)
              exact lv T hr
          · have T:=an h13 T
            refine wa_ T (g:=?_)
            rcases ifs hr with ⟨h15,hr⟩|⟨h15,hr⟩
            · have T:=an h15 T
              refine wa_ T (g:=?_)
              exact lv T hr
            · have T:=an h15 T
              refine wA T (g:=?_)
              obtain ⟨v14,h16,hr⟩:=bs hr
              apply TO.cal (wn T) rfl goFn36 (Spec.ov (ref05_FirstBelow_spec h16) (by decide)) rfl rfl rfl
              repeat exact sd T
              refine wa_ T (g:=?_)
              rcases ifs hr with ⟨h17,hr⟩|⟨h17,hr⟩
              · have T:=an h17 T
                refine wa_ T (g:=?_)
                exact lv T hr
              · have T:=an h17 T
                refine wa_ T (g:=?_)
                rcases ifs hr with ⟨h18,hr⟩|⟨h18,hr⟩
                · have T:=an h18 T
                  refine wa_ T (g:=?_)
                  exact lv T hr
                · have T:=an h18 T
                  refine wA T (g:=?_)
                  obtain ⟨⟨v15,v16⟩,h19,hr⟩:=bs hr
                  try dsimp only at hr
                  apply TO.cal (wn T) rfl goFn14 (Spec.ov (base_CopyResponse_spec h19) (by decide)) rfl rfl rfl
                  repeat exact sd T
                  refine wa_ T (g:=?_)
                  obtain ⟨⟨v17,v18⟩,h20,hr⟩:=bs hr
                  try dsimp only at hr
                  apply TO.lok (wn T) rfl goFn35 (Spec.ov (figure_FirstBelow_spec h20) (by decide)) (vw T) rfl rfl (by simp [clTB,cl,e_f,e_i,e_ii])
                  repeat exact sd T
                  refine wa_ T (g:=?_)
                  rcases ifs hr with ⟨h21,hr⟩|⟨h21,hr⟩
                  · have T:=an h21 T
                    refine wa_ T (g:=?_)
                    rcases ifs hr with ⟨h22,hr⟩|⟨h22,hr⟩
                    · have T:=an h22 T
                      refine wC T (g:=?_)
                      exact lv T hr
                    · have T:=an h22 T
                      refine wa_ T (g:=?_)
                      exact lv T hr
                  · have T:=an h21 T
                    refine wa_ T (g:=?_)
                    exact lv T hr
      · have T:=an h8 T
        refine wa_ T (g:=?_)
        rcases ifs hr with ⟨h23,hr⟩|⟨h23,hr⟩
        · have T:=an h23 T
          refine wa_ T (g:=?_)
          exact lv T hr
        · have T:=an h23 T
          refine wa_ T (g:=?_)
          exact lv T hr
    · have T:=an h6 T
      refine wa_ T (g:=?_)
      rcases ifs hr with ⟨h24,hr⟩|⟨h24,hr⟩
      · have T:=an h24 T
        refine wa_ T (g:=?_)
        rcases ifs hr with ⟨h25,hr⟩|⟨h25,hr⟩
        · have T:=an h25 T
          refine wa_ T (g:=?_)
          exact lv T hr
        · have T:=an h25 T
          refine wa_ T (g:=?_)
          exact lv T hr
      · have T:=an h24 T
        refine wa_ T (g:=?_)
        rcases ifs hr with ⟨h26,hr⟩|⟨h26,hr⟩
        · have T:=an h26 T
          refine wa_ T (g:=?_)
          exact lv T hr
        · have T:=an h26 T
          refine wA T (g:=?_)
          obtain ⟨v19,h27,hr⟩:=bs hr
          apply TO.cal (wn T) rfl goFn36 (Spec.ov (ref05_FirstBelow_spec h27) (by decide)) rfl rfl rfl
          repeat exact sd T
          refine wa_ T (g:=?_)
          rcases ifs hr with ⟨h28,hr⟩|⟨h28,hr⟩
          · have T:=an h28 T
            refine wa_ T (g:=?_)
            exact lv T hr
          · have T:=an h28 T
            refine wa_ T (g:=?_)
            rcases ifs hr with ⟨h29,hr⟩|⟨h29,hr⟩
            · have T:=an h29 T
              refine wa_ T (g:=?_)
              exact lv T hr
            · have T:=an h29 T
              refine wA T (g:=?_)
              obtain ⟨⟨v20,v21⟩,h30,hr⟩:=bs hr
              try dsimp only at hr
              apply TO.cal (wn T) rfl goFn14 (Spec.ov (base_CopyResponse_spec h30) (by decide)) rfl rfl rfl
              repeat exact sd T
              refine wa_ T (g:=?_)
              obtain ⟨⟨v22,v23⟩,h31,hr⟩:=bs hr
              try dsimp only at hr
              apply TO.lok (wn T) rfl goFn35 (Spec.ov (figure_FirstBelow_spec h31) (by decide)) (vw T) rfl rfl (by simp [clTB,cl,e_f,e_i,e_ii])
              repeat exact sd T
              refine wa_ T (g:=?_)
              rcases ifs hr with ⟨h32,hr⟩|⟨h32,hr⟩
              · have T:=an h32 T
                refine wa_ T (g:=?_)
                rcases ifs hr with ⟨h33,hr⟩|⟨h33,hr⟩
                · have T:=an h33 T
                  refine wC T (g:=?_)
                  exact lv T hr
                · have T:=an h33 T
                  refine wa_ T (g:=?_)
                  exact lv T hr
              · have T:=an h32 T
                refine wa_ T (g:=?_)
                exact lv T hr
  · have T:=an h2 T
    refine wa_ T (g:=?_)
    exact lv T hr

end Go.Rex
