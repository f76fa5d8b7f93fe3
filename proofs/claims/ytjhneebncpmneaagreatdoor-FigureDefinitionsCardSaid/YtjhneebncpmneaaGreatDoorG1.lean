/- Proofs that the program's functions do what these plain functions say. -/
import Derived.Test.YtjhneebncpmneaaGreatDoorGB
import Derived.Test.YtjhneebncpmneaaGreatDoorS
import Derived.Test.YtjhneebncpmneaaGreatDoorCZ
set_option linter.unusedSimpArgs false
set_option linter.unusedVariables false
set_option linter.defProp false
namespace Go.Rex
open Go.Proofs
open Go Go.Rex Go.RowKit
set_option maxRecDepth 100000
set_option maxHeartbeats 200000
def y1:=an @ag22 <| an @fd24_1 <| @so22
theorem law05_Few_spec {v1 : Int} {v2 : (List Nat)} {v3 : Bool} (hr : law05_Few v1 v2 = some (v3)) : Spec (lim Tryz.prog) 13 [.agg [.v (.int .i64 v1),.list 1 (v2.map e_f)]] ⟨[.v (.bool v3)],[]⟩:=by
  unfold law05_Few at hr
  have T:=an y1 <| @e_f.eq_1
  apply Spec.fn Tryz.func13 rfl
  focus (simp [Tryz.f13]<;>exact rfl)
  focus
    refine wD T (g:=?_)
    rcases ifs hr with ⟨h1,hr⟩|⟨h1,hr⟩
    · have T:=an h1 T
      refine wa_ T (g:=?_)
      cases hr
      refine ⟨.inr rfl,_,(ry T),?_⟩
      exact wk_ T [] rfl .nil
    · have T:=an h1 T
      refine wC T (g:=?_)
      rcases ifs hr with ⟨h2,hr⟩|⟨h2,hr⟩
      · have T:=an h2 T
        refine wC T (g:=?_)
        cases hr
        refine ⟨.inr rfl,_,(ry T),?_⟩
        exact wk_ T [] rfl .nil
      · have T:=an h2 T
        refine wa_ T (g:=?_)
        cases hr
        refine ⟨.inr rfl,_,(ry T),?_⟩
        exact wk_ T [] rfl .nil
  rfl

end Go.Rex

namespace Go.Rex
open Go.Proofs
open Go Go.Rex Go.RowKit
set_option maxRecDepth 100000
set_option maxHeartbeats 200000
def y2:=an @ag22 <| an @ag24 <| an @ag3 <| an @by82 <| an @cs24 <| an @cs82 <| an @fd24_0 <| an @fd24_1 <| an @ni22 <| an @ok24 <| an @so22 <| an @st24 <| an @zc24 <| @zc82
theorem base_CopyResponse_spec {v1 : Int} {v2 : (List Nat)} {v3 : Int} {v4 : (List Nat)} (hr : base_CopyResponse v1 v2 = some (v3,v4)) : Spec (lim Tryz.prog) 15 [.agg [.v (.int .i64 v1),.list 1 (v2.map e_f)]] ⟨[.agg [.v (.int .i64 v3),.lsl 0 0 v4.length]],[.rows 1 (v4.map e_f)]⟩:=by
  unfold base_CopyResponse at hr
  have T:=an y2 <| @e_f.eq_1
  apply Spec.fn Tryz.func15 rfl
  focus (simp [Tryz.f15]<;>exact rfl)
  focus
    repeat (first|(with_reducible first|refine mv ?_|refine TO.nil ?_)|((with_reducible first|apply TO.bf|apply TO.al);(repeat (focus (show _ = _;first|exact k1 rfl|exact k2 rfl|(simp only [zz,y2,e_f,Nat.reduceAdd,Nat.reduceMul,Nat.reduceLeDiff,Nat.reduceEqDiff]<;>exact rfl)|exact rfl)));(with_reducible apply TO.here))|((with_reducible apply TX.region);(focus (simp only [zl]<;>exact rfl));(focus rfl);(try dsimp only))|with_reducible refine TD.nil ?_|((with_reducible first|apply TD.fa|apply TD.ld );(repeat (focus (show _ = _;first|exact k1 rfl|exact k2 rfl|(simp only [zz,y2,e_f,Nat.reduceAdd,Nat.reduceMul,Nat.reduceLeDiff,Nat.reduceEqDiff,tfieldAddr,tload,rowOf,partT,List.getElem?_map]<;>exact rfl)|exact rfl)));(with_reducible refine TD.here ?_))|((with_reducible apply TD.ldF);(focus decide +kernel);(repeat (focus (show _ = _;first|exact k1 rfl|exact k2 rfl|(simp only [zz,y2,e_f,Nat.reduceAdd,Nat.reduceMul,Nat.reduceLeDiff,Nat.reduceEqDiff,tfieldAddr,tload,rowOf,partT,List.getElem?_map]<;>exact rfl)|exact rfl)));(with_reducible refine TD.here ?_))|((with_reducible apply TX.drawn);(focus decide +kernel);(focus (simp only [zl]<;>exact rfl));(focus exact rfl);(try dsimp only))|fail)
    apply TD.bl e_f ([] : List Nat) (wn T) rfl (by simp only [zz,y2,e_f,Nat.reduceAdd,Nat.reduceMul,Nat.reduceLeDiff,Nat.reduceEqDiff,tslice,tparts];exact rfl) rfl rfl
    repeat exact sd T
    repeat (first|(with_reducible first|refine mv ?_|refine TD.nil ?_)|((with_reducible first|apply TD.fa|apply TD.ld );(repeat (focus (show _ = _;first|exact k1 rfl|exact k2 rfl|(simp only [zz,y2,e_f,Nat.reduceAdd,Nat.reduceMul,Nat.reduceLeDiff,Nat.reduceEqDiff,tfieldAddr,tload,rowOf,partT,List.getElem?_map]<;>exact rfl)|exact rfl)));(with_reducible refine TD.here ?_))|((with_reducible apply TD.ldF);(focus decide +kernel);(repeat (focus (show _ = _;first|exact k1 rfl|exact k2 rfl|(simp only [zz,y2,e_f,Nat.reduceAdd,Nat.reduceMul,Nat.reduceLeDiff,Nat.reduceEqDiff,tfieldAddr,tload,rowOf,partT,List.getElem?_map]<;>exact rfl)|exact rfl)));(with_reducible refine TD.here ?_))|((with_reducible apply TX.drawn);(focus decide +kernel);(focus (simp only [zl]<;>exact rfl));(focus exact rfl);(try dsimp only))|fail)
    obtain ⟨v5,h1,hr⟩:=bs hr
    apply TD.apf (f:=e_f) (xs:=([] : List Nat)) (ys:=v2) (wn T) rfl rfl (by first|rfl|simp only [List.length_set]) rfl rfl so22 ni22 zc82 rfl (by rw [by82];exact h1) (fun _=>⟨rfl,rfl,rfl⟩) rfl
    repeat exact sd T
    refine wa_ T (g:=?_)
    cases hr
    refine ⟨.inr rfl,_,(ry T),?_⟩
    exact wr [some 1] rfl (.rows .nil rfl rfl)
  rfl

end Go.Rex

namespace Go.Rex
open Go.Proofs
open Go Go.Rex Go.RowKit
set_option maxRecDepth 100000
set_option maxHeartbeats 200000
def y3:=an @ag24 <| an @ag26 <| an @cs24 <| an @cs26 <| an @ok24 <| an @ok26 <| an @st26 <| @zc26
theorem figure_plain_spec {v1 : Int} {v2 : (List Nat)} {v3 : Int} {v4 : (List Nat)} (hr : figure_plain v1 v2 = some (v3,v4)) : Spec (lim Tryz.prog) 52 [.agg [.v (.int .i64 v1),.list 1 (v2.map e_f)]] ⟨[.agg [.v (.int .i64 v3),.list 1 (v4.map e_f),.v (.int .i64 0),.v (.int .i64 0)]],[]⟩:=by
  unfold figure_plain at hr
  have T:=an y3 <| @e_f.eq_1
  apply Spec.fn Tryz.func52 rfl
  focus (simp [Tryz.f52]<;>exact rfl)
  focus
    refine wB T (g:=?_)
    cases hr
    refine ⟨.inr rfl,_,(ry T),?_⟩
    exact wr [] rfl .nil
  rfl

end Go.Rex

namespace Go.Rex
open Go.Proofs
open Go Go.Rex Go.RowKit
set_option maxRecDepth 100000
set_option maxHeartbeats 200000
theorem figure_refuse_spec {v1 : Bool} {v2 : Int} {v3 : Int} (hr : figure_refuse v1 v2 = some (v3)) : Spec (lim Tryz.prog) 96 [.v (.bool v1),.v (.int .i64 v2)] ⟨[.v (.int .i64 v3)],[]⟩:=by
  unfold figure_refuse at hr
  have T:=trivial
  apply Spec.fn Tryz.func96 rfl
  focus (simp [Tryz.f96]<;>exact rfl)
  focus
    refine wa_ T (g:=?_)
    rcases ifs hr with ⟨h1,hr⟩|⟨h1,hr⟩
    · have T:=an h1 T
      refine wa_ T (g:=?_)
      cases hr
      refine ⟨.inr rfl,_,(ry T),?_⟩
      exact wk_ T [] rfl .nil
    · have T:=an h1 T
      refine wa_ T (g:=?_)
      cases hr
      refine ⟨.inr rfl,_,(ry T),?_⟩
      exact wk_ T [] rfl .nil
  rfl

end Go.Rex

namespace Go.Rex
open Go.Proofs
open Go Go.Rex Go.RowKit
set_option maxRecDepth 100000
set_option maxHeartbeats 200000
theorem figure_within_spec {v1 : Int} {v2 : Int} {v3 : Int} {v4 : Int} (hr : figure_within v1 v2 v3 = some (v4)) : Spec (lim Tryz.prog) 63 [.v (.int .i64 v1),.v (.int .i64 v2),.v (.int .i64 v3)] ⟨[.v (.int .i64 v4)],[]⟩:=by
  unfold figure_within at hr
  have T:=trivial
  apply Spec.fn Tryz.func63 rfl
  focus (simp [Tryz.f63]<;>exact rfl)
  focus
    refine wa_ T (g:=?_)
    rcases ifs hr with ⟨h1,hr⟩|⟨h1,hr⟩
    · have T:=an h1 T
      refine wa_ T (g:=?_)
      obtain ⟨v5,h2,hr⟩:=bs hr
      apply TO.cal (wn T) rfl goFn96 (figure_refuse_spec h2) rfl rfl rfl
      repeat exact sd T
      refine wa_ T (g:=?_)
      cases hr
      refine ⟨.inr rfl,_,(ry T),?_⟩
      exact wk_ T [] rfl .nil
    · have T:=an h1 T
      refine wa_ T (g:=?_)
      obtain ⟨v6,h3,hr⟩:=bs hr
      apply TO.cal (wn T) rfl goFn96 (figure_refuse_spec h3) rfl rfl rfl
      repeat exact sd T
      refine wa_ T (g:=?_)
      cases hr
      refine ⟨.inr rfl,_,(ry T),?_⟩
      exact wk_ T [] rfl .nil
  rfl

end Go.Rex

namespace Go.Rex
open Go.Proofs
open Go Go.Rex Go.RowKit
set_option maxRecDepth 100000
set_option maxHeartbeats 200000
theorem figure_rateError_spec {v1 : Int} {v2 : Int} (hr : figure_rateError v1 = some (v2)) : Spec (lim Tryz.prog) 154 [.v (.int .i64 v1)] ⟨[.v (.int .i64 v2)],[]⟩:=by
  unfold figure_rateError at hr
  have T:=trivial
  apply Spec.fn Tryz.func154 rfl
  focus (simp [Tryz.f154]<;>exact rfl)
  focus
    refine wa_ T (g:=?_)
    obtain ⟨v3,h1,hr⟩:=bs hr
    apply TO.cal (wn T) rfl goFn63 (figure_within_spec h1) rfl rfl rfl
    repeat exact sd T
    refine wa_ T (g:=?_)
    cases hr
    refine ⟨.inr rfl,_,(ry T),?_⟩
    exact wr [] rfl .nil
  rfl

end Go.Rex

namespace Go.Rex
open Go.Proofs
open Go Go.Rex Go.RowKit
set_option maxRecDepth 100000
set_option maxHeartbeats 200000
def y4:=an @ag31 <| an @cs31 <| an @ok31 <| an @so149 <| @wi64_0a1
theorem figure_firstError_spec {v1 : (List Int)} {v2 : Int} (hr : figure_firstError v1 = some (v2)) : Spec (lim Tryz.prog) 54 [.list 1 (v1.map e_i)] ⟨[.v (.int .i64 v2)],[]⟩:=by
  unfold figure_firstError at hr
  have T:=an y4 <| @e_i.eq_1
  apply Spec.fn Tryz.func54 rfl
  focus (simp [Tryz.f54]<;>exact rfl)
  focus
    refine wc_ T (g:=?_)
    obtain ⟨v7,h7,hr⟩:=bs hr
    refine TX.loopE (step:=figure_firstError_l1 v1) (x:=0) h7 (fun v3=>⟨.junk :: .junk :: .junk :: .junk :: .junk :: .list 1 (v1.map e_i) :: .v (.int .i64 (v1.length : Int)) :: .v (.int .i64 v3) :: .junk :: .junk :: .junk :: .junk :: .junk :: .junk :: .junk :: [],[]⟩) (fun e=>match e with|(.inl v5)=>(.ret,⟨.junk :: .junk :: .v (.int .i64 v5) :: .junk :: .junk :: .junk :: .junk :: .junk :: .junk :: .junk :: .junk :: .junk :: .junk :: .junk :: .junk :: [],[]⟩)|(.inr _)=>(.exit 0,⟨.junk :: .junk :: .junk :: .junk :: .junk :: .junk :: .junk :: .junk :: .junk :: .junk :: .junk :: .junk :: .junk :: .junk :: .junk :: [],[]⟩)) ?_ ?_ ?_ ?_
    · rintro v3 v0 hr
      dsimp only [figure_firstError_l1] at hr
      try dsimp only
      refine wa_ T (g:=?_)
      rcases ifs hr with ⟨h4,hr⟩|⟨h4,hr⟩
      · have T:=an h4 T
        refine wa_ T (g:=?_)
        obtain ⟨v6,h5,hr⟩:=bs hr
        have T:=an (gx e_i h5) T
        refine wA T (g:=?_)
        rcases ifs hr with ⟨h6,hr⟩|⟨h6,hr⟩
        · have T:=an h6 T
          refine wa_ T (g:=?_)
          cases hr
          refine ⟨rfl,?_⟩
          exact wk_ T [] rfl .nil
        · have T:=an h6 T
          refine wa_ T (g:=?_)
          cases hr
          refine ⟨rfl,?_⟩
          exact wk_ T [] rfl .nil
      · have T:=an h4 T
        refine wa_ T (g:=?_)
        cases hr
        refine ⟨rfl,?_⟩
        exact wk_ T [] rfl .nil
    · intro e h;rcases e with _|e<;>cases h
    · try dsimp only
      rcases v7 with v8|_
      · try dsimp only at hr
        try dsimp only
        refine wa_ T (g:=?_)
        cases hr
        refine ⟨.inr rfl,_,(ry T),?_⟩
        exact wr [] rfl .nil
      · try dsimp only at hr
        try dsimp only
        refine wa_ T (g:=?_)
        cases hr
        refine ⟨.inr rfl,_,(ry T),?_⟩
        exact wr [] rfl .nil
    · try dsimp only
      exact wr [] rfl .nil
  rfl

end Go.Rex

namespace Go.Rex
open Go.Proofs
open Go Go.Rex Go.RowKit
set_option maxRecDepth 100000
set_option maxHeartbeats 200000
def y5:=an @ar_194 <| @ex194
theorem math_Trunc_spec {v1 : Nat} {v2 : Nat} (hr : math_Trunc v1 = some (v2)) : Spec (lim Tryz.prog) 185 [.v (.float .f64 v1)] ⟨[.v (.float .f64 v2)],[]⟩:=by
  unfold math_Trunc at hr
  have T:=y5
  apply Spec.fn Tryz.func185 rfl
  focus (simp [Tryz.f185]<;>exact rfl)
  focus
    refine wa_ T (g:=?_)
    obtain ⟨v3,h1,hr⟩:=bs hr
    apply TO.tr (wn T) rfl ex194 ar_194 (by simp only [z1,z3,zl]<;>rfl) h1
    repeat exact sd T
    refine wa_ T (g:=?_)
    cases hr
    refine ⟨.inr rfl,_,(ry T),?_⟩
    exact wr [] rfl .nil
  rfl

end Go.Rex

namespace Go.Rex
open Go.Proofs
open Go Go.Rex Go.RowKit
set_option maxRecDepth 100000
set_option maxHeartbeats 200000
def y6:=an @ex200 <| @ex78
theorem math_Abs_spec {v1 : Nat} {v2 : Nat} (hr : math_Abs v1 = some (v2)) : Spec (lim Tryz.prog) 196 [.v (.float .f64 v1)] ⟨[.v (.float .f64 v2)],[]⟩:=by
  unfold math_Abs at hr
  have T:=y6
  apply Spec.fn Tryz.func196 rfl
  focus (simp [Tryz.f196]<;>exact rfl)
  focus
    refine wa_ T (g:=?_)
    obtain ⟨v3,h1,hr⟩:=bs hr
    apply TO.fb (wn T) rfl ex78 (by simp only [z1,z3,zl]<;>rfl) h1 rfl
    repeat exact sd T
    refine wa_ T (g:=?_)
    apply TO.pop1 (wn T) (pop_bits rfl rfl (by decide))
    repeat exact sd T
    refine wa_ T (g:=?_)
    apply TO.ex (wn T) rfl ex200 (by simp only [z1,z3,zl];exact rfl) rfl rfl (rfl) rfl rfl rfl
    repeat exact sd T
    refine wa_ T (g:=?_)
    cases hr
    refine ⟨.inr rfl,_,(ry T),?_⟩
    exact wr [] rfl .nil
  rfl

end Go.Rex

namespace Go.Rex
open Go.Proofs
open Go Go.Rex Go.RowKit
set_option maxRecDepth 100000
set_option maxHeartbeats 200000
theorem math_IsInf_spec {v1 : Nat} {v2 : Int} {v3 : Bool} (hr : math_IsInf v1 v2 = some (v3)) : Spec (lim Tryz.prog) 186 [.v (.float .f64 v1),.v (.int .i64 v2)] ⟨[.v (.bool v3)],[]⟩:=by
  unfold math_IsInf at hr
  have T:=trivial
  apply Spec.fn Tryz.func186 rfl
  focus (simp [Tryz.f186]<;>exact rfl)
  focus
    refine wa_ T (g:=?_)
    rcases ifs hr with ⟨h1,hr⟩|⟨h1,hr⟩
    · have T:=an h1 T
      refine wa_ T (g:=?_)
      obtain ⟨v4,h2,hr⟩:=bs hr
      apply TO.cal (wn T) rfl goFn196 (math_Abs_spec h2) rfl rfl rfl
      repeat exact sd T
      refine wa_ T (g:=?_)
      apply TO.pop1 (wn T) (pop_fcmp rfl rfl (by decide))
      repeat exact sd T
      refine wa_ T (g:=?_)
      cases hr
      refine ⟨.inr rfl,_,(ry T),?_⟩
      exact wk_ T [] rfl .nil
    · have T:=an h1 T
      refine wa_ T (g:=?_)
      rcases ifs hr with ⟨h3,hr⟩|⟨h3,hr⟩
      · have T:=an h3 T
        refine wa_ T (g:=?_)
        apply TO.pop1 (wn T) (pop_fneg rfl)
        repeat exact sd T
        refine wa_ T (g:=?_)
        apply TO.pop1 (wn T) (pop_fcmp rfl rfl (by decide))
        repeat exact sd T
        refine wa_ T (g:=?_)
        cases hr
        refine ⟨.inr rfl,_,(ry T),?_⟩
        exact wk_ T [] rfl .nil
      · have T:=an h3 T
        refine wa_ T (g:=?_)
        apply TO.pop1 (wn T) (pop_fcmp rfl rfl (by decide))
        repeat exact sd T
        refine wa_ T (g:=?_)
        cases hr
        refine ⟨.inr rfl,_,(ry T),?_⟩
        exact wk_ T [] rfl .nil
  rfl

end Go.Rex

namespace Go.Rex
open Go.Proofs
open Go Go.Rex Go.RowKit
set_option maxRecDepth 100000
set_option maxHeartbeats 200000
def y7:=an @un121 <| @un82
theorem figure_isWhole_spec {v1 : Nat} {v2 : Bool} (hr : figure_isWhole v1 = some (v2)) : Spec (lim Tryz.prog) 169 [.v (.float .f32 v1)] ⟨[.v (.bool v2)],[]⟩:=by
  unfold figure_isWhole at hr
  have T:=y7
  apply Spec.fn Tryz.func169 rfl
  focus (simp [Tryz.f169]<;>exact rfl)
  focus
    refine wa_ T (g:=?_)
    obtain ⟨v3,h1,hr⟩:=bs hr
    apply TO.pop1 (wn T) (cvt_float_float un82 un121 rfl h1)
    repeat exact sd T
    refine wa_ T (g:=?_)
    obtain ⟨v4,h2,hr⟩:=bs hr
    apply TO.cal (wn T) rfl goFn185 (math_Trunc_spec h2) rfl rfl rfl
    repeat exact sd T
    refine wa_ T (g:=?_)
    apply TO.pop1 (wn T) (pop_fcmp rfl rfl (by decide))
    repeat exact sd T
    refine wa_ T (g:=?_)
    rcases ifs hr with ⟨h3,hr⟩|⟨h3,hr⟩
    · have T:=an h3 T
      refine wa_ T (g:=?_)
      obtain ⟨v5,h4,hr⟩:=bs hr
      apply TO.cal (wn T) rfl goFn186 (math_IsInf_spec h4) rfl rfl rfl
      repeat exact sd T
      refine wa_ T (g:=?_)
      apply TO.pop1 (wn T) (pop_not rfl)
      repeat exact sd T
      refine wa_ T (g:=?_)
      cases hr
      refine ⟨.inr rfl,_,(ry T),?_⟩
      exact wk_ T [] rfl .nil
    · have T:=an h3 T
      refine wa_ T (g:=?_)
      cases hr
      refine ⟨.inr rfl,_,(ry T),?_⟩
      exact wk_ T [] rfl .nil
  rfl

end Go.Rex

namespace Go.Rex
open Go.Proofs
open Go Go.Rex Go.RowKit
set_option maxRecDepth 100000
set_option maxHeartbeats 200000
def y8:=an @cs31 <| an @so149 <| @zc31
theorem figure_sampleError_spec {v1 : Nat} {v2 : Int} (hr : figure_sampleError v1 = some (v2)) : Spec (lim Tryz.prog) 155 [.v (.float .f32 v1)] ⟨[.v (.int .i64 v2)],[]⟩:=by
  unfold figure_sampleError at hr
  have T:=an y8 <| @e_i.eq_1
  apply Spec.fn Tryz.func155 rfl
  focus (simp [Tryz.f155]<;>exact rfl)
  focus
    refine wa_ T (g:=?_)
    obtain ⟨v3,h1,hr⟩:=bs hr
    apply TO.cal (wn T) rfl goFn169 (figure_isWhole_spec h1) rfl rfl rfl
    repeat exact sd T
    refine wa_ T (g:=?_)
    apply TO.pop1 (wn T) (pop_not rfl)
    repeat exact sd T
    refine wa_ T (g:=?_)
    obtain ⟨v4,h2,hr⟩:=bs hr
    apply TO.cal (wn T) rfl goFn96 (figure_refuse_spec h2) rfl rfl rfl
    repeat exact sd T
    refine wa_ T (g:=?_)
    apply TO.pop1 (wn T) (pop_fcmp rfl rfl (by decide))
    repeat exact sd T
    refine wa_ T (g:=?_)
    rcases ifs hr with ⟨h3,hr⟩|⟨h3,hr⟩
    · have T:=an h3 T
      refine wa_ T (g:=?_)
      obtain ⟨v5,h4,hr⟩:=bs hr
      apply TO.cal (wn T) rfl goFn96 (figure_refuse_spec h4) rfl rfl rfl
      repeat exact sd T
      refine wa_ T (g:=?_)
      apply TO.bm e_i ([v4,v5] : List Int) (wn T) rfl (by simp only [zz,y8,e_i,Nat.reduceAdd,Nat.reduceMul,Nat.reduceLeDiff,Nat.reduceEqDiff,tslice,tparts,h3];exact rfl) rfl
      repeat exact sd T
      refine wa_ T (g:=?_)
      obtain ⟨v6,h5,hr⟩:=bs hr
      apply TO.cal (wn T) rfl goFn54 (figure_firstError_spec h5) rfl rfl rfl
      repeat exact sd T
      refine wa_ T (g:=?_)
      cases hr
      refine ⟨.inr rfl,_,(ry T),?_⟩
      exact wk_ T [] rfl .nil
    · have T:=an h3 T
      refine wa_ T (g:=?_)
      apply TO.pop1 (wn T) (pop_fcmp rfl rfl (by decide))
      repeat exact sd T
      refine wa_ T (g:=?_)
      obtain ⟨v7,h6,hr⟩:=bs hr
      apply TO.cal (wn T) rfl goFn96 (figure_refuse_spec h6) rfl rfl rfl
      repeat exact sd T
      refine wa_ T (g:=?_)
      apply TO.bm e_i ([v4,v7] : List Int) (wn T) rfl (by simp only [zz,y8,e_i,Nat.reduceAdd,Nat.reduceMul,Nat.reduceLeDiff,Nat.reduceEqDiff,tslice,tparts,h3];exact rfl) rfl
      repeat exact sd T
      refine wa_ T (g:=?_)
      obtain ⟨v8,h7,hr⟩:=bs hr
      apply TO.cal (wn T) rfl goFn54 (figure_firstError_spec h7) rfl rfl rfl
      repeat exact sd T
      refine wa_ T (g:=?_)
      cases hr
      refine ⟨.inr rfl,_,(ry T),?_⟩
      exact wk_ T [] rfl .nil
  rfl

end Go.Rex

namespace Go.Rex
open Go.Proofs
open Go Go.Rex Go.RowKit
set_option maxRecDepth 100000
set_option maxHeartbeats 1000000
def y9:=an @ag22 <| an @ag3 <| an @ag82 <| an @cs31 <| an @cs82 <| an @fd24_0 <| an @fd24_1 <| an @ok82 <| an @so149 <| an @so22 <| an @zc31 <| @wi64_0a1
theorem figure_CheckResponse_spec {v1 : Int} {v2 : (List Nat)} {v3 : Int} {v4 : Int} (hr : figure_CheckResponse v1 v2 = some (v3,v4)) : Spec (lim Tryz.prog) 139 [.agg [.v (.int .i64 v1),.list 1 (v2.map e_f)]] ⟨[.tuple [.v (.int .i64 v3),.v (.int .i64 v4)]],[]⟩:=by
  unfold figure_CheckResponse at hr
  have T:=an y9 <| an @e_f.eq_1 <| @e_i.eq_1
  apply Spec.fn Tryz.func139 rfl
  focus (simp [Tryz.f139]<;>exact rfl)
  focus
    refine wB T (g:=?_)
    obtain ⟨v5,h1,hr⟩:=bs hr
    apply TD.cal (wn T) rfl goFn154 (figure_rateError_spec h1) rfl rfl rfl
    repeat exact sd T
    refine wC T (g:=?_)
    obtain ⟨v6,h2,hr⟩:=bs hr
    apply TD.cal (wn T) rfl goFn96 (figure_refuse_spec h2) rfl rfl rfl
    repeat exact sd T
    refine wC T (g:=?_)
    obtain ⟨v7,h3,hr⟩:=bs hr
    apply TD.cal (wn T) rfl goFn96 (figure_refuse_spec h3) rfl rfl rfl
    repeat exact sd T
    refine wa_ T (g:=?_)
    apply TD.bm e_i ([v5,v6,v7] : List Int) (wn T) rfl (by simp only [zz,y9,e_f,e_i,Nat.reduceAdd,Nat.reduceMul,Nat.reduceLeDiff,Nat.reduceEqDiff,tslice,tparts];exact rfl) rfl
    repeat exact sd T
    refine wa_ T (g:=?_)
    obtain ⟨v8,h4,hr⟩:=bs hr
    apply TD.cal (wn T) rfl goFn54 (figure_firstError_spec h4) rfl rfl rfl
    repeat exact sd T
    refine wa_ T (g:=?_)
    rcases ifs hr with ⟨h5,hr⟩|⟨h5,hr⟩
    · have T:=an h5 T
      refine wa_ T (g:=?_)
      cases hr
      refine ⟨.inr rfl,_,(ry T),?_⟩
      exact wk_ T [] rfl .nil
    · have T:=an h5 T
      refine wC T (g:=?_)
      obtain ⟨v16,h14,hr⟩:=bs hr
      refine TX.loopE (step:=figure_CheckResponse_l1 v2) (x:=0) h14 (fun v9=>⟨.junk :: .junk :: .junk :: .junk :: .junk :: .junk :: .junk :: .junk :: .junk :: .junk :: .junk :: .junk :: .junk :: .junk :: .junk :: .junk :: .junk :: .junk :: .junk :: .junk :: .junk :: .junk :: .junk :: .junk :: .junk :: .junk :: .junk :: .list 1 (v2.map e_f) :: .v (.int .i64 (v2.length : Int)) :: .v (.int .i64 v9) :: .junk :: .junk :: .junk :: .junk :: .junk :: .junk :: .junk :: .junk :: .junk :: .junk :: .junk :: [],[]⟩) (fun e=>match e with|(.inl (v12,v13))=>(.ret,⟨.junk :: .junk :: .v (.int .i64 v12) :: .v (.int .i64 v13) :: .junk :: .junk :: .junk :: .junk :: .junk :: .junk :: .junk :: .junk :: .junk :: .junk :: .junk :: .junk :: .junk :: .junk :: .junk :: .junk :: .junk :: .junk :: .junk :: .junk :: .junk :: .junk :: .junk :: .junk :: .junk :: .junk :: .junk :: .junk :: .junk :: .junk :: .junk :: .junk :: .junk :: .junk :: .junk :: .junk :: .junk :: [],[]⟩)|(.inr _)=>(.exit 0,⟨.junk :: .junk :: .junk :: .junk :: .junk :: .junk :: .junk :: .junk :: .junk :: .junk :: .junk :: .junk :: .junk :: .junk :: .junk :: .junk :: .junk :: .junk :: .junk :: .junk :: .junk :: .junk :: .junk :: .junk :: .junk :: .junk :: .junk :: .junk :: .junk :: .junk :: .junk :: .junk :: .junk :: .junk :: .junk :: .junk :: .junk :: .junk :: .junk :: .junk :: .junk :: [],[]⟩)) ?_ ?_ ?_ ?_
      · rintro v9 v0 hr
        dsimp only [figure_CheckResponse_l1] at hr
        try dsimp only
        refine wa_ T (g:=?_)
        rcases ifs hr with ⟨h10,hr⟩|⟨h10,hr⟩
        · have T:=an h10 T
          refine wa_ T (g:=?_)
          obtain ⟨v14,h11,hr⟩:=bs hr
          have T:=an (gx e_f h11) T
          refine wA T (g:=?_)
          obtain ⟨v15,h12,hr⟩:=bs hr
          apply TO.cal (wn T) rfl goFn155 (figure_sampleError_spec h12) rfl rfl rfl
          repeat exact sd T
          refine wa_ T (g:=?_)
          rcases ifs hr with ⟨h13,hr⟩|⟨h13,hr⟩
          · have T:=an h13 T
            refine wa_ T (g:=?_)
            cases hr
            refine ⟨rfl,?_⟩
            exact wk_ T [] rfl .nil
          · have T:=an h13 T
            refine wa_ T (g:=?_)
            cases hr
            refine ⟨rfl,?_⟩
            exact wk_ T [] rfl .nil
        · have T:=an h10 T
          refine wa_ T (g:=?_)
          cases hr
          refine ⟨rfl,?_⟩
          exact wk_ T [] rfl .nil
      · intro e h;rcases e with _|e<;>cases h
      · try dsimp only
        rcases v16 with ⟨v17,v18⟩|_
        · try dsimp only at hr
          try dsimp only
          refine wa_ T (g:=?_)
          cases hr
          refine ⟨.inr rfl,_,(ry T),?_⟩
          exact wk_ T [] rfl .nil
        · try dsimp only at hr
          try dsimp only
          refine wa_ T (g:=?_)
          cases hr
          refine ⟨.inr rfl,_,(ry T),?_⟩
          exact wk_ T [] rfl .nil
      · try dsimp only
        exact wk_ T [] rfl .nil
  rfl

end Go.Rex

namespace Go.Rex
open Go.Proofs
open Go Go.Rex Go.RowKit
set_option maxRecDepth 100000
set_option maxHeartbeats 200000
def y10:=an @ag24 <| an @ag3 <| an @cs24 <| an @cs31 <| an @fd26_0 <| an @fd26_1 <| an @fd26_2 <| an @ok24 <| an @so149 <| @zc31
theorem figure_CheckAsk_spec {v1 : Int} {v2 : (List Nat)} {v3 : Int} {v4 : Int} {v5 : Int} {v6 : Int} (hr : figure_CheckAsk v1 v2 v3 v4 = some (v5,v6)) : Spec (lim Tryz.prog) 95 [.agg [.v (.int .i64 v1),.list 1 (v2.map e_f),.v (.int .i64 v3),.v (.int .i64 v4)]] ⟨[.tuple [.v (.int .i64 v5),.v (.int .i64 v6)]],[]⟩:=by
  unfold figure_CheckAsk at hr
  have T:=an y10 <| an @e_f.eq_1 <| @e_i.eq_1
  apply Spec.fn Tryz.func95 rfl
  focus (simp [Tryz.f95]<;>exact rfl)
  focus
    refine wB T (g:=?_)
    obtain ⟨⟨v7,v8⟩,h1,hr⟩:=bs hr
    try dsimp only at hr
    apply TO.cal (wn T) rfl goFn139 (figure_CheckResponse_spec h1) rfl rfl rfl
    repeat exact sd T
    refine wa_ T (g:=?_)
    rcases ifs hr with ⟨h2,hr⟩|⟨h2,hr⟩
    · have T:=an h2 T
      refine wa_ T (g:=?_)
      cases hr
      refine ⟨.inr rfl,_,(ry T),?_⟩
      exact wk_ T [] rfl .nil
    · have T:=an h2 T
      refine wA T (g:=?_)
      obtain ⟨v9,h3,hr⟩:=bs hr
      apply TD.cal (wn T) rfl goFn63 (figure_within_spec h3) rfl rfl rfl
      repeat exact sd T
      refine wA T (g:=?_)
      obtain ⟨v10,h4,hr⟩:=bs hr
      apply TD.cal (wn T) rfl goFn63 (figure_within_spec h4) rfl rfl rfl
      repeat exact sd T
      refine wa_ T (g:=?_)
      apply TD.bm e_i ([v9,v10] : List Int) (wn T) rfl (by simp only [zz,y10,e_f,e_i,Nat.reduceAdd,Nat.reduceMul,Nat.reduceLeDiff,Nat.reduceEqDiff,tslice,tparts,h2];exact rfl) rfl
      repeat exact sd T
      refine wa_ T (g:=?_)
      obtain ⟨v11,h5,hr⟩:=bs hr
      apply TD.cal (wn T) rfl goFn54 (figure_firstError_spec h5) rfl rfl rfl
      repeat exact sd T
      refine wa_ T (g:=?_)
      cases hr
      refine ⟨.inr rfl,_,(ry T),?_⟩
      exact wk_ T [] rfl .nil
  rfl

end Go.Rex

namespace Go.Rex
open Go.Proofs
open Go Go.Rex Go.RowKit
set_option maxRecDepth 100000
set_option maxHeartbeats 200000
def y11:=an @ag26 <| an @ag94 <| an @cs26 <| an @cs94 <| an @ok26 <| an @ok94 <| an @st94 <| @zc94
theorem figure_hear_spec {v1 : Int} {v2 : (List Nat)} {v3 : Int} {v4 : Int} {v5 : Int} {v6 : (List Nat)} {v7 : Int} {v8 : Int} {v9 : Int} (hr : figure_hear v1 v2 v3 v4 = some (v5,v6,v7,v8,v9)) : Spec (lim Tryz.prog) 53 [.agg [.v (.int .i64 v1),.list 1 (v2.map e_f),.v (.int .i64 v3),.v (.int .i64 v4)]] ⟨[.tuple [.agg [.v (.int .i64 v5),.list 1 (v6.map e_f),.v (.int .i64 v7),.v (.int .i64 v8)],.v (.int .i64 v9)]],[]⟩:=by
  unfold figure_hear at hr
  have T:=an y11 <| @e_f.eq_1
  apply Spec.fn Tryz.func53 rfl
  focus (simp [Tryz.f53]<;>exact rfl)
  focus
    refine wB T (g:=?_)
    obtain ⟨⟨v10,v11⟩,h1,hr⟩:=bs hr
    try dsimp only at hr
    apply TO.cal (wn T) rfl goFn95 (figure_CheckAsk_spec h1) rfl rfl rfl
    repeat exact sd T
    refine wA T (g:=?_)
    cases hr
    refine ⟨.inr rfl,_,(ry T),?_⟩
    exact wr [] rfl .nil
  rfl

end Go.Rex

namespace Go.Rex
open Go.Proofs
open Go Go.Rex Go.RowKit
set_option maxRecDepth 100000
set_option maxHeartbeats 200000
theorem figure_timeError_spec {v1 : Int} {v2 : Int} (hr : figure_timeError v1 = some (v2)) : Spec (lim Tryz.prog) 67 [.v (.int .i64 v1)] ⟨[.v (.int .i64 v2)],[]⟩:=by
  unfold figure_timeError at hr
  have T:=trivial
  apply Spec.fn Tryz.func67 rfl
  focus (simp [Tryz.f67]<;>exact rfl)
  focus
    refine wa_ T (g:=?_)
    obtain ⟨v3,h1,hr⟩:=bs hr
    apply TO.cal (wn T) rfl goFn63 (figure_within_spec h1) rfl rfl rfl
    repeat exact sd T
    refine wa_ T (g:=?_)
    cases hr
    refine ⟨.inr rfl,_,(ry T),?_⟩
    exact wr [] rfl .nil
  rfl

end Go.Rex

namespace Go.Rex
open Go.Proofs
open Go Go.Rex Go.RowKit
set_option maxRecDepth 100000
set_option maxHeartbeats 200000
theorem figure_up_spec {v1 : Int} {v2 : Int} {v3 : Int} (hr : figure_up v1 v2 = some (v3)) : Spec (lim Tryz.prog) 119 [.v (.int .i64 v1),.v (.int .i64 v2)] ⟨[.v (.int .i64 v3)],[]⟩:=by
  unfold figure_up at hr
  have T:=trivial
  apply Spec.fn Tryz.func119 rfl
  focus (simp [Tryz.f119]<;>exact rfl)
  focus
    refine wa_ T (g:=?_)
    by_cases h1 : v2 = 0
    · rw [if_pos h1] at hr
      cases hr
    · rw [if_neg h1] at hr
      have T:=an h1 T
      refine wa_ T (g:=?_)
      cases hr
      refine ⟨.inr rfl,_,(ry T),?_⟩
      exact wr [] rfl .nil
  rfl

end Go.Rex

namespace Go.Rex
open Go.Proofs
open Go Go.Rex Go.RowKit
set_option maxRecDepth 100000
set_option maxHeartbeats 200000
theorem figure_sampleAt_spec {v1 : Int} {v2 : Int} {v3 : Int} (hr : figure_sampleAt v1 v2 = some (v3)) : Spec (lim Tryz.prog) 112 [.v (.int .i64 v1),.v (.int .i64 v2)] ⟨[.v (.int .i64 v3)],[]⟩:=by
  unfold figure_sampleAt at hr
  have T:=trivial
  apply Spec.fn Tryz.func112 rfl
  focus (simp [Tryz.f112]<;>exact rfl)
  focus
    refine wa_ T (g:=?_)
    obtain ⟨v4,h1,hr⟩:=bs hr
    apply TO.cal (wn T) rfl goFn119 (figure_up_spec h1) rfl rfl rfl
    repeat exact sd T
    refine wa_ T (g:=?_)
    cases hr
    refine ⟨.inr rfl,_,(ry T),?_⟩
    exact wr [] rfl .nil
  rfl

end Go.Rex

namespace Go.Rex
open Go.Proofs
open Go Go.Rex Go.RowKit
set_option maxRecDepth 100000
set_option maxHeartbeats 200000
def y12:=an @ag22 <| an @fd24_1 <| an @fd26_0 <| an @fd94_0 <| @so22
theorem figure_heard_count_spec {v1 : Int} {v2 : (List Nat)} {v3 : Int} {v4 : Int} {v5 : Int} (hr : figure_heard_count v1 v2 v3 v4 = some (v5)) : Spec (lim Tryz.prog) 113 [.agg [.v (.int .i64 v1),.list 1 (v2.map e_f),.v (.int .i64 v3),.v (.int .i64 v4)]] ⟨[.v (.int .i64 v5)],[]⟩:=by
  unfold figure_heard_count at hr
  have T:=an y12 <| @e_f.eq_1
  apply Spec.fn Tryz.func113 rfl
  focus (simp [Tryz.f113]<;>exact rfl)
  focus
    refine wD T (g:=?_)
    cases hr
    refine ⟨.inr rfl,_,(ry T),?_⟩
    exact wr [] rfl .nil
  rfl

end Go.Rex

namespace Go.Rex
open Go.Proofs
open Go Go.Rex Go.RowKit
set_option maxRecDepth 100000
set_option maxHeartbeats 200000
def y13:=an @ag3 <| an @ag94 <| an @cs94 <| an @fd24_0 <| an @fd26_0 <| an @fd94_0 <| @ok94
theorem figure_heard_split_spec {v1 : Int} {v2 : (List Nat)} {v3 : Int} {v4 : Int} {v5 : Int} {v6 : Int} (hr : figure_heard_split v1 v2 v3 v4 v5 = some (v6)) : Spec (lim Tryz.prog) 117 [.agg [.v (.int .i64 v1),.list 1 (v2.map e_f),.v (.int .i64 v3),.v (.int .i64 v4)],.v (.int .i64 v5)] ⟨[.v (.int .i64 v6)],[]⟩:=by
  unfold figure_heard_split at hr
  have T:=an y13 <| @e_f.eq_1
  apply Spec.fn Tryz.func117 rfl
  focus (simp [Tryz.f117]<;>exact rfl)
  focus
    refine wB T (g:=?_)
    obtain ⟨v7,h1,hr⟩:=bs hr
    apply TD.cal (wn T) rfl goFn112 (figure_sampleAt_spec h1) rfl rfl rfl
    repeat exact sd T
    refine wA T (g:=?_)
    obtain ⟨v8,h2,hr⟩:=bs hr
    apply TD.cal (wn T) rfl goFn113 (figure_heard_count_spec h2) rfl rfl rfl
    repeat exact sd T
    refine wa_ T (g:=?_)
    apply TD.pop1 (wn T) (pop_min rfl rfl)
    repeat exact sd T
    refine wa_ T (g:=?_)
    cases hr
    refine ⟨.inr rfl,_,(ry T),?_⟩
    exact wr [] rfl .nil
  rfl

end Go.Rex

namespace Go.Rex
open Go.Proofs
open Go Go.Rex Go.RowKit
set_option maxRecDepth 100000
set_option maxHeartbeats 200000
def y14:=an @ag100 <| an @cs100 <| an @ok100 <| an @st100 <| an @st30 <| an @zc100 <| @zc30
theorem figure_between_spec {v1 : Int} {v2 : Int} {v3 : Int} {v4 : Int} (hr : figure_between v1 v2 = some (v3,v4)) : Spec (lim Tryz.prog) 114 [.v (.int .i64 v1),.v (.int .i64 v2)] ⟨[.agg [.v (.int .i64 v3),.v (.int .i64 v4)]],[]⟩:=by
  unfold figure_between at hr
  have T:=y14
  apply Spec.fn Tryz.func114 rfl
  focus (simp [Tryz.f114]<;>exact rfl)
  focus
    refine wa_ T (g:=?_)
    cases hr
    refine ⟨.inr rfl,_,(ry T),?_⟩
    exact wr [] rfl .nil
  rfl

end Go.Rex

namespace Go.Rex
open Go.Proofs
open Go Go.Rex Go.RowKit
set_option maxRecDepth 100000
set_option maxHeartbeats 200000
def y15:=an @ag100 <| an @ag22 <| an @ag3 <| an @ag82 <| an @cs100 <| an @cs82 <| an @fd24_1 <| an @fd26_0 <| an @fd26_1 <| an @fd94_0 <| an @ok100 <| an @ok82 <| an @so22 <| an @un3 <| an @un82 <| @zc100
theorem figure_heard_square_spec {v1 : Int} {v2 : (List Nat)} {v3 : Int} {v4 : Int} {v5 : Int} {v6 : Int} {v7 : Int} (hr : figure_heard_square v1 v2 v3 v4 v5 = some (v6,v7)) : Spec (lim Tryz.prog) 121 [.agg [.v (.int .i64 v1),.list 1 (v2.map e_f),.v (.int .i64 v3),.v (.int .i64 v4)],.v (.int .i64 v5)] ⟨[.agg [.v (.int .i64 v6),.v (.int .i64 v7)]],[]⟩:=by
  unfold figure_heard_square at hr
  have T:=an y15 <| @e_f.eq_1
  apply Spec.fn Tryz.func121 rfl
  focus (simp [Tryz.f121]<;>exact rfl)
  focus
    refine wB T (g:=?_)
    obtain ⟨v8,h1,hr⟩:=bs hr
    have T:=an (gx e_f h1) T
    refine wA T (g:=?_)
    obtain ⟨v9,h2,hr⟩:=bs hr
    apply TO.pop1 (wn T) (cvt_float_int un82 un3 rfl h2)
    repeat exact sd T
    refine wa_ T (g:=?_)
    apply TO.pop1 (wn T) (pop_neg rfl)
    repeat exact sd T
    refine wa_ T (g:=?_)
    apply TO.pop1 (wn T) (pop_max rfl rfl)
    repeat exact sd T
    refine wA T (g:=?_)
    apply TD.pop1 (wn T) (pop_max rfl rfl)
    repeat exact sd T
    refine wA T (g:=?_)
    obtain ⟨⟨v10,v11⟩,h3,hr⟩:=bs hr
    try dsimp only at hr
    apply TO.cal (wn T) rfl goFn114 (figure_between_spec h3) rfl rfl rfl
    repeat exact sd T
    refine wa_ T (g:=?_)
    cases hr
    refine ⟨.inr rfl,_,(ry T),?_⟩
    exact wr [] rfl .nil
  rfl

end Go.Rex

namespace Go.Rex
open Go.Proofs
open Go Go.Rex Go.RowKit
set_option maxRecDepth 100000
set_option maxHeartbeats 200000
def y16:=an @ag100 <| an @ag3 <| an @cs100 <| an @fd100_0 <| an @fd30_0 <| an @fd30_1 <| an @ok100 <| @zc100
theorem figure_ends_plus_spec {v1 : Int} {v2 : Int} {v3 : Int} {v4 : Int} {v5 : Int} {v6 : Int} (hr : figure_ends_plus v1 v2 v3 v4 = some (v5,v6)) : Spec (lim Tryz.prog) 137 [.agg [.v (.int .i64 v1),.v (.int .i64 v2)],.agg [.v (.int .i64 v3),.v (.int .i64 v4)]] ⟨[.agg [.v (.int .i64 v5),.v (.int .i64 v6)]],[]⟩:=by
  unfold figure_ends_plus at hr
  have T:=y16
  apply Spec.fn Tryz.func137 rfl
  focus (simp [Tryz.f137]<;>exact rfl)
  focus
    refine wB T (g:=?_)
    obtain ⟨⟨v7,v8⟩,h1,hr⟩:=bs hr
    try dsimp only at hr
    apply TO.cal (wn T) rfl goFn114 (figure_between_spec h1) rfl rfl rfl
    repeat exact sd T
    refine wa_ T (g:=?_)
    cases hr
    refine ⟨.inr rfl,_,(ry T),?_⟩
    exact wr [] rfl .nil
  rfl

end Go.Rex

namespace Go.Rex
open Go.Proofs
open Go Go.Rex Go.RowKit
set_option maxRecDepth 100000
set_option maxHeartbeats 200000
def y17:=an @ag100 <| an @ag94 <| an @cs100 <| an @cs94 <| an @ok100 <| an @ok94 <| @zc100
theorem figure_heard_energy_spec {v1 : Int} {v2 : (List Nat)} {v3 : Int} {v4 : Int} {v5 : Int} {v6 : Int} {v7 : Int} {v8 : Int} (hr : figure_heard_energy v1 v2 v3 v4 v5 v6 = some (v7,v8)) : Spec (lim Tryz.prog) 116 [.agg [.v (.int .i64 v1),.list 1 (v2.map e_f),.v (.int .i64 v3),.v (.int .i64 v4)],.v (.int .i64 v5),.v (.int .i64 v6)] ⟨[.agg [.v (.int .i64 v7),.v (.int .i64 v8)]],[]⟩:=by
  unfold figure_heard_energy at hr
  have T:=an y17 <| @e_f.eq_1
  apply Spec.fn Tryz.func116 rfl
  focus (simp [Tryz.f116]<;>exact rfl)
  focus
    refine wb_ T (g:=?_)
    obtain ⟨⟨v22,v23⟩,h7,hr⟩:=bs hr
    try dsimp only at hr
    refine TX.loopE (step:=figure_heard_energy_l1 v1 v2 v3 v4 v6) (x:=(0,0,v5)) h7 (fun (v9,v10,v11)=>⟨.junk :: .junk :: .v (.int .i64 v6) :: .fptr true [.v (.int .i64 v1),.list 1 (v2.map e_f),.v (.int .i64 v3),.v (.int .i64 v4)] 0 :: .junk :: .junk :: .lptr 0 0 0 :: .lptr 1 0 0 :: .v (.int .i64 v11) :: .junk :: .junk :: .junk :: .junk :: .junk :: .junk :: .junk :: .junk :: .junk :: .junk :: .junk :: .junk :: [],[.var [.v (.int .i64 0),.v (.int .i64 0)],.var [.v (.int .i64 v9),.v (.int .i64 v10)]]⟩) (fun (v16,v17)=>(.exit 0,⟨.junk :: .junk :: .junk :: .junk :: .junk :: .junk :: .lptr 0 0 0 :: .lptr 1 0 0 :: .junk :: .junk :: .junk :: .junk :: .junk :: .junk :: .junk :: .junk :: .junk :: .junk :: .junk :: .junk :: .junk :: [],[.var [.v (.int .i64 0),.v (.int .i64 0)],.var [.v (.int .i64 v16),.v (.int .i64 v17)]]⟩)) ?_ ?_ ?_ ?_
    · rintro ⟨v9,v10,v11⟩ v0 hr
      dsimp only [figure_heard_energy_l1] at hr
      try dsimp only
      refine wa_ T (g:=?_)
      rcases ifs hr with ⟨h4,hr⟩|⟨h4,hr⟩
      · have T:=an h4 T
        refine wA T (g:=?_)
        obtain ⟨⟨v18,v19⟩,h5,hr⟩:=bs hr
        try dsimp only at hr
        apply TD.cal (wn T) rfl goFn121 (figure_heard_square_spec h5) rfl rfl rfl
        repeat exact sd T
        refine wa_ T (g:=?_)
        obtain ⟨⟨v20,v21⟩,h6,hr⟩:=bs hr
        try dsimp only at hr
        apply TD.cal (wn T) rfl goFn137 (figure_ends_plus_spec h6) rfl rfl rfl
        repeat exact sd T
        refine wa_ T (g:=?_)
        cases hr
        refine ⟨rfl,?_⟩
        exact wk_ T [some 0,some 1] rfl (rv (rv .nil rfl) rfl)
      · have T:=an h4 T
        refine wa_ T (g:=?_)
        cases hr
        refine ⟨rfl,?_⟩
        exact wk_ T [some 0,some 1] rfl (rv (rv .nil rfl) rfl)
    · intro e h;cases h
    · try dsimp only
      refine wA T (g:=?_)
      cases hr
      refine ⟨.inr rfl,_,(ry T),?_⟩
      exact wr [] rfl .nil
    · try dsimp only
      exact wr [some 0,some 1] rfl (rv (rv .nil rfl) rfl)
  rfl

end Go.Rex

namespace Go.Rex
open Go.Proofs
open Go Go.Rex Go.RowKit
set_option maxRecDepth 100000
set_option maxHeartbeats 200000
def y18:=an @ag100 <| an @ag94 <| an @cs100 <| an @cs94 <| an @ok100 <| an @ok94 <| @zc100
theorem figure_heard_early_spec {v1 : Int} {v2 : (List Nat)} {v3 : Int} {v4 : Int} {v5 : Int} {v6 : Int} {v7 : Int} (hr : figure_heard_early v1 v2 v3 v4 v5 = some (v6,v7)) : Spec (lim Tryz.prog) 72 [.agg [.v (.int .i64 v1),.list 1 (v2.map e_f),.v (.int .i64 v3),.v (.int .i64 v4)],.v (.int .i64 v5)] ⟨[.agg [.v (.int .i64 v6),.v (.int .i64 v7)]],[]⟩:=by
  unfold figure_heard_early at hr
  have T:=an y18 <| @e_f.eq_1
  apply Spec.fn Tryz.func72 rfl
  focus (simp [Tryz.f72]<;>exact rfl)
  focus
    refine wB T (g:=?_)
    obtain ⟨v8,h1,hr⟩:=bs hr
    apply TD.cal (wn T) rfl goFn117 (figure_heard_split_spec h1) rfl rfl rfl
    repeat exact sd T
    refine wa_ T (g:=?_)
    obtain ⟨⟨v9,v10⟩,h2,hr⟩:=bs hr
    try dsimp only at hr
    apply TD.cal (wn T) rfl goFn116 (figure_heard_energy_spec h2) rfl rfl rfl
    repeat exact sd T
    refine wa_ T (g:=?_)
    cases hr
    refine ⟨.inr rfl,_,(ry T),?_⟩
    exact wr [] rfl .nil
  rfl

end Go.Rex

namespace Go.Rex
open Go.Proofs
open Go Go.Rex Go.RowKit
set_option maxRecDepth 100000
set_option maxHeartbeats 200000
def y19:=an @ag100 <| an @ag3 <| an @cs100 <| an @fd26_2 <| an @fd94_0 <| an @ok100 <| @zc100
theorem figure_heard_behind_spec {v1 : Int} {v2 : (List Nat)} {v3 : Int} {v4 : Int} {v5 : Int} {v6 : Int} (hr : figure_heard_behind v1 v2 v3 v4 = some (v5,v6)) : Spec (lim Tryz.prog) 136 [.agg [.v (.int .i64 v1),.list 1 (v2.map e_f),.v (.int .i64 v3),.v (.int .i64 v4)]] ⟨[.agg [.v (.int .i64 v5),.v (.int .i64 v6)]],[]⟩:=by
  unfold figure_heard_behind at hr
  have T:=an y19 <| @e_f.eq_1
  apply Spec.fn Tryz.func136 rfl
  focus (simp [Tryz.f136]<;>exact rfl)
  focus
    refine wB T (g:=?_)
    obtain ⟨⟨v7,v8⟩,h1,hr⟩:=bs hr
    try dsimp only at hr
    apply TO.cal (wn T) rfl goFn114 (figure_between_spec h1) rfl rfl rfl
    repeat exact sd T
    refine wa_ T (g:=?_)
    cases hr
    refine ⟨.inr rfl,_,(ry T),?_⟩
    exact wr [] rfl .nil
  rfl

end Go.Rex

namespace Go.Rex
open Go.Proofs
open Go Go.Rex Go.RowKit
set_option maxRecDepth 100000
set_option maxHeartbeats 1000000
def y20:=an @ag100 <| an @ag94 <| an @by100 <| an @cs100 <| an @cs94 <| an @ok100 <| an @ok94 <| an @so141 <| @zc100
theorem figure_heard_sums_spec {v1 : Int} {v2 : (List Nat)} {v3 : Int} {v4 : Int} {v5 : (List (Int × Int))} (hr : figure_heard_sums v1 v2 v3 v4 = some (v5)) : Spec (lim Tryz.prog) 90 [.agg [.v (.int .i64 v1),.list 1 (v2.map e_f),.v (.int .i64 v3),.v (.int .i64 v4)]] ⟨[.lsl 0 0 v5.length],[.rows 2 (v5.map e_ii)]⟩:=by
  unfold figure_heard_sums at hr
  have T:=an y20 <| an @e_f.eq_1 <| @e_ii.eq_1
  apply Spec.fn Tryz.func90 rfl
  focus (simp [Tryz.f90]<;>exact rfl)
  focus
    refine wB T (g:=?_)
    obtain ⟨v6,h1,hr⟩:=bs hr
    apply TO.cal (wn T) rfl goFn113 (figure_heard_count_spec h1) rfl rfl rfl
    repeat exact sd T
    refine wa_ T (g:=?_)
    obtain ⟨v7,h2,hr⟩:=bs hr
    apply TO.mk e_ii h2 (wn T) rfl rfl so141 zc100 by100 rfl rfl rfl
    repeat exact sd T
    refine wA T (g:=?_)
    obtain ⟨v8,h3,hr⟩:=bs hr
    apply TD.cal (wn T) rfl goFn113 (figure_heard_count_spec h3) rfl rfl rfl
    repeat exact sd T
    refine wA T (g:=?_)
    obtain ⟨⟨v9,v10⟩,h4,hr⟩:=bs hr
    try dsimp only at hr
    apply TD.cal (wn T) rfl goFn136 (figure_heard_behind_spec h4) rfl rfl rfl
    repeat exact sd T
    refine wa_ T (g:=?_)
    obtain ⟨⟨v11,v12⟩,h5,hr⟩:=bs hr
    try dsimp only at hr
    have h5m:=tidx_map (f:=e_ii) h5
    have h5l:=getI_lt h5
    try simp only [List.length_set] at h5l
    have h5a:=getI_at h5
    have T:=an h5m T
    have T:=an h5l T
    have T:=an h5a T
    refine wa_ T (g:=?_)
    apply TD.sr e_ii v7 (v11,v12) (v9,v10) h5a (wn T) rfl rfl rfl rfl rfl ok100 (by rw [cs100];rfl) rfl rfl rfl rfl rfl
    repeat exact sd T
    refine wA T (g:=?_)
    obtain ⟨v13,h6,hr⟩:=bs hr
    apply TO.cal (wn T) rfl goFn113 (figure_heard_count_spec h6) rfl rfl rfl
    repeat exact sd T
    refine wa_ T (g:=?_)
    obtain ⟨v33,h17,hr⟩:=bs hr
    refine TX.loopE (step:=figure_heard_sums_l1 v1 v2 v3 v4) (x:=((v7.set v8.toNat (v9,v10)),(IntKind.i64.wrap (v13 - 1)))) h17 (fun (v14,v15)=>⟨.junk :: .fptr true [.v (.int .i64 v1),.list 1 (v2.map e_f),.v (.int .i64 v3),.v (.int .i64 v4)] 0 :: .junk :: .lsl 0 0 v14.length :: .v (.int .i64 v15) :: .junk :: .junk :: .junk :: .junk :: .junk :: .junk :: .junk :: .junk :: .junk :: .junk :: .junk :: .junk :: .junk :: .junk :: .junk :: .junk :: .junk :: .junk :: .junk :: .junk :: .junk :: .junk :: .junk :: .junk :: .junk :: .junk :: .junk :: .junk :: .junk :: .junk :: [],[.rows 2 (v14.map e_ii)]⟩) (fun v24=>(.exit 0,⟨.junk :: .junk :: .junk :: .lsl 0 0 v24.length :: .junk :: .junk :: .junk :: .junk :: .junk :: .junk :: .junk :: .junk :: .junk :: .junk :: .junk :: .junk :: .junk :: .junk :: .junk :: .junk :: .junk :: .junk :: .junk :: .junk :: .junk :: .junk :: .junk :: .junk :: .junk :: .junk :: .junk :: .junk :: .junk :: .junk :: .junk :: [],[.rows 2 (v24.map e_ii)]⟩)) ?_ ?_ ?_ ?_
    · rintro ⟨v14,v15⟩ v0 hr
      dsimp only [figure_heard_sums_l1] at hr
      try dsimp only
      refine wa_ T (g:=?_)
      rcases ifs hr with ⟨h12,hr⟩|⟨h12,hr⟩
      · have T:=an h12 T
        refine wa_ T (g:=?_)
        obtain ⟨⟨v25,v26⟩,h13,hr⟩:=bs hr
        try dsimp only at hr
        have h13m:=tidx_map (f:=e_ii) h13
        have h13l:=getI_lt h13
        try simp only [List.length_set] at h13l
        have h13a:=getI_at h13
        have T:=an h13m T
        have T:=an h13l T
        have T:=an h13a T
        refine wA T (g:=?_)
        obtain ⟨⟨v27,v28⟩,h14,hr⟩:=bs hr
        try dsimp only at hr
        apply TD.cal (wn T) rfl goFn121 (figure_heard_square_spec h14) rfl rfl rfl
        repeat exact sd T
        refine wa_ T (g:=?_)
        obtain ⟨⟨v29,v30⟩,h15,hr⟩:=bs hr
        try dsimp only at hr
        apply TD.cal (wn T) rfl goFn137 (figure_ends_plus_spec h15) rfl rfl rfl
        repeat exact sd T
        refine wa_ T (g:=?_)
        obtain ⟨⟨v31,v32⟩,h16,hr⟩:=bs hr
        try dsimp only at hr
        have h16m:=tidx_map (f:=e_ii) h16
        have h16l:=getI_lt h16
        try simp only [List.length_set] at h16l
        have h16a:=getI_at h16
        have T:=an h16m T
        have T:=an h16l T
        have T:=an h16a T
        refine wa_ T (g:=?_)
        apply TD.sr e_ii v14 (v31,v32) (v29,v30) h16a (wn T) rfl rfl rfl rfl rfl ok100 (by rw [cs100];rfl) rfl rfl rfl rfl rfl
        repeat exact sd T
        refine wa_ T (g:=?_)
        cases hr
        refine ⟨rfl,?_⟩
        exact wk_ T [some 0] rfl (.rows .nil rfl rfl)
      · have T:=an h12 T
        refine wa_ T (g:=?_)
        cases hr
        refine ⟨rfl,?_⟩
        exact wk_ T [some 0] rfl (.rows .nil rfl rfl)
    · intro e h;cases h
    · try dsimp only
      refine wa_ T (g:=?_)
      cases hr
      refine ⟨.inr rfl,_,(ry T),?_⟩
      exact wr [some 0] rfl (.rows .nil rfl rfl)
    · try dsimp only
      exact wr [some 0] rfl (.rows .nil rfl rfl)
  rfl

end Go.Rex

namespace Go.Rex
open Go.Proofs
open Go Go.Rex Go.RowKit
set_option maxRecDepth 100000
set_option maxHeartbeats 200000
def y21:=an @ag100 <| an @ag94 <| an @cs100 <| an @cs94 <| an @ok100 <| an @ok94 <| an @so141 <| @zc100
theorem figure_heard_all_spec {v1 : Int} {v2 : (List Nat)} {v3 : Int} {v4 : Int} {v5 : Int} {v6 : Int} (hr : figure_heard_all v1 v2 v3 v4 = some (v5,v6)) : Spec (lim Tryz.prog) 73 [.agg [.v (.int .i64 v1),.list 1 (v2.map e_f),.v (.int .i64 v3),.v (.int .i64 v4)]] ⟨[.agg [.v (.int .i64 v5),.v (.int .i64 v6)]],[]⟩:=by
  unfold figure_heard_all at hr
  have T:=an y21 <| an @e_f.eq_1 <| @e_ii.eq_1
  apply Spec.fn Tryz.func73 rfl
  focus (simp [Tryz.f73]<;>exact rfl)
  focus
    refine wB T (g:=?_)
    obtain ⟨v7,h1,hr⟩:=bs hr
    apply TO.cal (wn T) rfl goFn90 (figure_heard_sums_spec h1) rfl rfl rfl
    repeat exact sd T
    refine wa_ T (g:=?_)
    obtain ⟨⟨v8,v9⟩,h2,hr⟩:=bs hr
    try dsimp only at hr
    have T:=an (gx e_ii h2) T
    refine wA T (g:=?_)
    cases hr
    refine ⟨.inr rfl,_,(ry T),?_⟩
    exact wr [] rfl .nil
  rfl

end Go.Rex

namespace Go.Rex
open Go.Proofs
open Go Go.Rex Go.RowKit
set_option maxRecDepth 100000
set_option maxHeartbeats 200000
theorem figure_commonDivisor_spec {v1 : Int} {v2 : Int} {v3 : Int} (hr : figure_commonDivisor v1 v2 = some (v3)) : Spec (lim Tryz.prog) 144 [.v (.int .i64 v1),.v (.int .i64 v2)] ⟨[.v (.int .i64 v3)],[]⟩:=by
  unfold figure_commonDivisor at hr
  have T:=trivial
  apply Spec.fn Tryz.func144 rfl
  focus (simp [Tryz.f144]<;>exact rfl)
  focus
    refine wa_ T (g:=?_)
    obtain ⟨v7,h5,hr⟩:=bs hr
    refine TX.loopE (step:=figure_commonDivisor_l1) (x:=(v1,v2)) h5 (fun (v4,v5)=>⟨.v (.int .i64 v4) :: .v (.int .i64 v5) :: .junk :: .junk :: .junk :: .junk :: .junk :: .junk :: .junk :: .junk :: .junk :: .junk :: [],[]⟩) (fun v6=>(.exit 0,⟨.junk :: .v (.int .i64 v6) :: .junk :: .junk :: .junk :: .junk :: .junk :: .junk :: .junk :: .junk :: .junk :: .junk :: [],[]⟩)) ?_ ?_ ?_ ?_
    · rintro ⟨v4,v5⟩ v0 hr
      dsimp only [figure_commonDivisor_l1] at hr
      try dsimp only
      refine wa_ T (g:=?_)
      rcases ifs hr with ⟨h3,hr⟩|⟨h3,hr⟩
      · have T:=an h3 T
        refine wa_ T (g:=?_)
        by_cases h4 : v4 = 0
        · rw [if_pos h4] at hr
          cases hr
        · rw [if_neg h4] at hr
          have T:=an h4 T
          refine wa_ T (g:=?_)
          cases hr
          refine ⟨rfl,?_⟩
          exact wk_ T [] rfl .nil
      · have T:=an h3 T
        refine wa_ T (g:=?_)
        cases hr
        refine ⟨rfl,?_⟩
        exact wk_ T [] rfl .nil
    · intro e h;cases h
    · try dsimp only
      refine wa_ T (g:=?_)
      cases hr
      refine ⟨.inr rfl,_,(ry T),?_⟩
      exact wr [] rfl .nil
    · try dsimp only
      exact wr [] rfl .nil
  rfl

end Go.Rex

namespace Go.Rex
open Go.Proofs
open Go Go.Rex Go.RowKit
set_option maxRecDepth 100000
set_option maxHeartbeats 200000
def y22:=an @ag3 <| an @ag50 <| an @cs50 <| an @fd50_0 <| an @fd50_1 <| an @ok50 <| an @st50 <| @zc50
theorem figure_fraction_spec {v1 : Int} {v2 : Int} {v3 : Int} {v4 : Int} {v5 : Int} (hr : figure_fraction v1 v2 = some (v3,v4,v5)) : Spec (lim Tryz.prog) 115 [.v (.int .i64 v1),.v (.int .i64 v2)] ⟨[.tuple [.agg [.v (.int .i64 v3),.v (.int .i64 v4)],.v (.int .i64 v5)]],[]⟩:=by
  unfold figure_fraction at hr
  have T:=y22
  apply Spec.fn Tryz.func115 rfl
  focus (simp [Tryz.f115]<;>exact rfl)
  focus
    refine wa_ T (g:=?_)
    obtain ⟨v6,h1,hr⟩:=bs hr
    apply TO.cal (wn T) rfl goFn144 (figure_commonDivisor_spec h1) rfl rfl rfl
    repeat exact sd T
    refine wa_ T (g:=?_)
    by_cases h2 : v6 = 0
    · rw [if_pos h2] at hr
      cases hr
    · rw [if_neg h2] at hr
      have T:=an h2 T
      refine wA T (g:=?_)
      rcases ifs hr with ⟨h3,hr⟩|⟨h3,hr⟩
      · have T:=an h3 T
        refine wa_ T (g:=?_)
        cases hr
        refine ⟨.inr rfl,_,(ry T),?_⟩
        exact wk_ T [] rfl .nil
      · have T:=an h3 T
        refine wA T (g:=?_)
        rcases ifs hr with ⟨h4,hr⟩|⟨h4,hr⟩
        · have T:=an h4 T
          refine wa_ T (g:=?_)
          cases hr
          refine ⟨.inr rfl,_,(ry T),?_⟩
          exact wk_ T [] rfl .nil
        · have T:=an h4 T
          refine wA T (g:=?_)
          cases hr
          refine ⟨.inr rfl,_,(ry T),?_⟩
          exact wk_ T [] rfl .nil
  rfl

end Go.Rex

namespace Go.Rex
open Go.Proofs
open Go Go.Rex Go.RowKit
set_option maxRecDepth 100000
set_option maxHeartbeats 200000
def y23:=an @ag50 <| an @cs50 <| an @ok50 <| an @st50 <| @zc50
theorem figure_share_spec {v1 : Int} {v2 : Int} {v3 : Int} {v4 : Int} {v5 : Int} (hr : figure_share v1 v2 = some (v3,v4,v5)) : Spec (lim Tryz.prog) 71 [.v (.int .i64 v1),.v (.int .i64 v2)] ⟨[.tuple [.agg [.v (.int .i64 v3),.v (.int .i64 v4)],.v (.int .i64 v5)]],[]⟩:=by
  unfold figure_share at hr
  have T:=y23
  apply Spec.fn Tryz.func71 rfl
  focus (simp [Tryz.f71]<;>exact rfl)
  focus
    refine wa_ T (g:=?_)
    rcases ifs hr with ⟨h1,hr⟩|⟨h1,hr⟩
    · have T:=an h1 T
      refine wa_ T (g:=?_)
      cases hr
      refine ⟨.inr rfl,_,(ry T),?_⟩
      exact wk_ T [] rfl .nil
    · have T:=an h1 T
      refine wa_ T (g:=?_)
      obtain ⟨⟨v6,v7,v8⟩,h2,hr⟩:=bs hr
      try dsimp only at hr
      apply TO.cal (wn T) rfl goFn115 (figure_fraction_spec h2) rfl rfl rfl
      repeat exact sd T
      refine wa_ T (g:=?_)
      cases hr
      refine ⟨.inr rfl,_,(ry T),?_⟩
      exact wk_ T [] rfl .nil
  rfl

end Go.Rex

namespace Go.Rex
open Go.Proofs
open Go Go.Rex Go.RowKit
set_option maxRecDepth 100000
set_option maxHeartbeats 200000
def y24:=an @ag24 <| an @ag3 <| an @ag30 <| an @ag50 <| an @ag94 <| an @cs24 <| an @cs30 <| an @cs31 <| an @cs50 <| an @cs94 <| an @fd100_0 <| an @fd30_0 <| an @ok24 <| an @ok30 <| an @ok50 <| an @ok94 <| an @so149 <| an @st50 <| an @zc31 <| an @zc50 <| @zc94
theorem figure_Definition_spec {v1 : Int} {v2 : (List Nat)} {v3 : Int} {v4 : Int} {v5 : Int} {v6 : Int} (hr : figure_Definition v1 v2 v3 = some (v4,v5,v6)) : Spec (lim Tryz.prog) 29 [.agg [.v (.int .i64 v1),.list 1 (v2.map e_f)],.v (.int .i64 v3)] ⟨[.tuple [.agg [.v (.int .i64 v4),.v (.int .i64 v5)],.v (.int .i64 v6)]],[]⟩:=by
  unfold figure_Definition at hr
  have T:=an y24 <| an @e_f.eq_1 <| @e_i.eq_1
  apply Spec.fn Tryz.func29 rfl
  focus (simp [Tryz.f29]<;>exact rfl)
  focus
    refine wB T (g:=?_)
    obtain ⟨⟨v7,v8⟩,h1,hr⟩:=bs hr
    try dsimp only at hr
    apply TO.cal (wn T) rfl goFn52 (figure_plain_spec h1) rfl rfl rfl
    repeat exact sd T
    refine wa_ T (g:=?_)
    obtain ⟨⟨v9,v10,v11,v12,v13⟩,h2,hr⟩:=bs hr
    try dsimp only at hr
    apply TO.cal (wn T) rfl goFn53 (figure_hear_spec h2) rfl rfl rfl
    repeat exact sd T
    refine wa_ T (g:=?_)
    obtain ⟨v14,h3,hr⟩:=bs hr
    apply TO.cal (wn T) rfl goFn67 (figure_timeError_spec h3) rfl rfl rfl
    repeat exact sd T
    refine wa_ T (g:=?_)
    apply TO.bm e_i ([v13,v14] : List Int) (wn T) rfl (by simp only [zz,y24,e_f,e_i,Nat.reduceAdd,Nat.reduceMul,Nat.reduceLeDiff,Nat.reduceEqDiff,tslice,tparts];exact rfl) rfl
    repeat exact sd T
    refine wa_ T (g:=?_)
    obtain ⟨v15,h4,hr⟩:=bs hr
    apply TO.cal (wn T) rfl goFn54 (figure_firstError_spec h4) rfl rfl rfl
    repeat exact sd T
    refine wa_ T (g:=?_)
    rcases ifs hr with ⟨h5,hr⟩|⟨h5,hr⟩
    · have T:=an h5 T
      refine wa_ T (g:=?_)
      cases hr
      refine ⟨.inr rfl,_,(ry T),?_⟩
      exact wk_ T [] rfl .nil
    · have T:=an h5 T
      refine wA T (g:=?_)
      obtain ⟨⟨v16,v17⟩,h6,hr⟩:=bs hr
      try dsimp only at hr
      apply TD.cal (wn T) rfl goFn72 (figure_heard_early_spec h6) rfl rfl rfl
      repeat exact sd T
      refine wA T (g:=?_)
      obtain ⟨⟨v18,v19⟩,h7,hr⟩:=bs hr
      try dsimp only at hr
      apply TD.cal (wn T) rfl goFn73 (figure_heard_all_spec h7) rfl rfl rfl
      repeat exact sd T
      refine wa_ T (g:=?_)
      obtain ⟨⟨v20,v21,v22⟩,h8,hr⟩:=bs hr
      try dsimp only at hr
      apply TD.cal (wn T) rfl goFn71 (figure_share_spec h8) rfl rfl rfl
      repeat exact sd T
      refine wa_ T (g:=?_)
      cases hr
      refine ⟨.inr rfl,_,(ry T),?_⟩
      exact wk_ T [] rfl .nil
  rfl

end Go.Rex

namespace Go.Rex
open Go.Proofs
open Go Go.Rex Go.RowKit
set_option maxRecDepth 100000
set_option maxHeartbeats 200000
def y25:=an @ag24 <| an @ag26 <| an @cs24 <| an @cs26 <| an @fd26_0 <| an @ok24 <| an @ok26 <| @zc26
theorem ref05_Copy_spec {v1 : Int} {v2 : (List Nat)} {v3 : Int} {v4 : Int} {v5 : Int} {v6 : (List Nat)} {v7 : Int} {v8 : Int} (hr : ref05_Copy v1 v2 v3 v4 = some (v5,v6,v7,v8)) : Spec (lim Tryz.prog) 17 [.agg [.v (.int .i64 v1),.list 1 (v2.map e_f),.v (.int .i64 v3),.v (.int .i64 v4)]] ⟨[.agg [.v (.int .i64 v5),.lsl 0 0 v6.length,.v (.int .i64 v7),.v (.int .i64 v8)]],[.rows 1 (v6.map e_f)]⟩:=by
  unfold ref05_Copy at hr
  have T:=an y25 <| @e_f.eq_1
  apply Spec.fn Tryz.func17 rfl
  focus (simp [Tryz.f17]<;>exact rfl)
  focus
    repeat (first|(with_reducible first|refine mv ?_|refine TO.nil ?_)|((with_reducible first|apply TO.bx (dst:=some 1)|apply TO.al|apply TO.fa|apply TO.ld);(repeat (focus (show _ = _;first|exact k1 rfl|exact k2 rfl|(simp only [zz,y25,e_f,Nat.reduceAdd,Nat.reduceMul,Nat.reduceLeDiff,Nat.reduceEqDiff,tfieldAddr,tload,rowOf,partT,List.getElem?_map]<;>exact rfl)|exact rfl)));(with_reducible apply TO.here))|((with_reducible apply TX.region);(focus (simp only [zl]<;>exact rfl));(focus rfl);(try dsimp only))|fail)
    obtain ⟨⟨v9,v10⟩,h1,hr⟩:=bs hr
    try dsimp only at hr
    apply TO.cal (wn T) rfl goFn15 (base_CopyResponse_spec h1) rfl rfl rfl
    repeat exact sd T
    refine wA T (g:=?_)
    cases hr
    refine ⟨.inr rfl,_,(ry T),?_⟩
    exact wr [some 2] rfl (.rows .nil rfl rfl)
  rfl

end Go.Rex

namespace Go.Rex
open Go.Proofs
open Go Go.Rex Go.RowKit
set_option maxRecDepth 100000
set_option maxHeartbeats 200000
def y26:=an @ag100 <| an @ag94 <| an @cs100 <| an @cs94 <| an @ok100 <| an @ok94 <| an @so141 <| @zc100
theorem figure_heard_late_spec {v1 : Int} {v2 : (List Nat)} {v3 : Int} {v4 : Int} {v5 : Int} {v6 : Int} {v7 : Int} (hr : figure_heard_late v1 v2 v3 v4 v5 = some (v6,v7)) : Spec (lim Tryz.prog) 111 [.agg [.v (.int .i64 v1),.list 1 (v2.map e_f),.v (.int .i64 v3),.v (.int .i64 v4)],.v (.int .i64 v5)] ⟨[.agg [.v (.int .i64 v6),.v (.int .i64 v7)]],[]⟩:=by
  unfold figure_heard_late at hr
  have T:=an y26 <| an @e_f.eq_1 <| @e_ii.eq_1
  apply Spec.fn Tryz.func111 rfl
  focus (simp [Tryz.f111]<;>exact rfl)
  focus
    refine wB T (g:=?_)
    obtain ⟨v8,h1,hr⟩:=bs hr
    apply TD.cal (wn T) rfl goFn90 (figure_heard_sums_spec h1) rfl rfl rfl
    repeat exact sd T
    refine wA T (g:=?_)
    obtain ⟨v9,h2,hr⟩:=bs hr
    apply TD.cal (wn T) rfl goFn117 (figure_heard_split_spec h2) rfl rfl rfl
    repeat exact sd T
    refine wa_ T (g:=?_)
    obtain ⟨⟨v10,v11⟩,h3,hr⟩:=bs hr
    try dsimp only at hr
    have T:=an (gx e_ii h3) T
    refine wA T (g:=?_)
    cases hr
    refine ⟨.inr rfl,_,(ry T),?_⟩
    exact wr [] rfl .nil
  rfl

end Go.Rex

namespace Go.Rex
open Go.Proofs
open Go Go.Rex Go.RowKit
set_option maxRecDepth 100000
set_option maxHeartbeats 200000
def y27:=an @ag100 <| an @ag3 <| an @cs100 <| an @fd100_0 <| an @fd30_0 <| an @fd30_1 <| an @ok100 <| @zc100
theorem figure_ends_times_spec {v1 : Int} {v2 : Int} {v3 : Int} {v4 : Int} {v5 : Int} (hr : figure_ends_times v1 v2 v3 = some (v4,v5)) : Spec (lim Tryz.prog) 100 [.agg [.v (.int .i64 v1),.v (.int .i64 v2)],.v (.int .i64 v3)] ⟨[.agg [.v (.int .i64 v4),.v (.int .i64 v5)]],[]⟩:=by
  unfold figure_ends_times at hr
  have T:=y27
  apply Spec.fn Tryz.func100 rfl
  focus (simp [Tryz.f100]<;>exact rfl)
  focus
    refine wB T (g:=?_)
    obtain ⟨⟨v6,v7⟩,h1,hr⟩:=bs hr
    try dsimp only at hr
    apply TO.cal (wn T) rfl goFn114 (figure_between_spec h1) rfl rfl rfl
    repeat exact sd T
    refine wa_ T (g:=?_)
    cases hr
    refine ⟨.inr rfl,_,(ry T),?_⟩
    exact wr [] rfl .nil
  rfl

end Go.Rex

namespace Go.Rex
open Go.Proofs
open Go Go.Rex Go.RowKit
set_option maxRecDepth 100000
set_option maxHeartbeats 200000
theorem figure_down_spec {v1 : Int} {v2 : Int} {v3 : Int} (hr : figure_down v1 v2 = some (v3)) : Spec (lim Tryz.prog) 118 [.v (.int .i64 v1),.v (.int .i64 v2)] ⟨[.v (.int .i64 v3)],[]⟩:=by
  unfold figure_down at hr
  have T:=trivial
  apply Spec.fn Tryz.func118 rfl
  focus (simp [Tryz.f118]<;>exact rfl)
  focus
    refine wa_ T (g:=?_)
    by_cases h1 : v2 = 0
    · rw [if_pos h1] at hr
      cases hr
    · rw [if_neg h1] at hr
      have T:=an h1 T
      refine wa_ T (g:=?_)
      cases hr
      refine ⟨.inr rfl,_,(ry T),?_⟩
      exact wr [] rfl .nil
  rfl

end Go.Rex

namespace Go.Rex
open Go.Proofs
open Go Go.Rex Go.RowKit
set_option maxRecDepth 100000
set_option maxHeartbeats 1000000
def y28:=an @ag100 <| an @ag3 <| an @ag94 <| an @cs100 <| an @cs94 <| an @fd100_0 <| an @fd30_0 <| an @fd30_1 <| an @ok100 <| an @ok94 <| an @st100 <| @zc100
theorem figure_heard_definition_spec {v1 : Int} {v2 : (List Nat)} {v3 : Int} {v4 : Int} {v5 : Int} {v6 : Int} {v7 : Int} {v8 : Int} (hr : figure_heard_definition v1 v2 v3 v4 v5 = some (v6,v7,v8)) : Spec (lim Tryz.prog) 74 [.agg [.v (.int .i64 v1),.list 1 (v2.map e_f),.v (.int .i64 v3),.v (.int .i64 v4)],.v (.int .i64 v5)] ⟨[.tuple [.agg [.v (.int .i64 v6),.v (.int .i64 v7)],.v (.int .i64 v8)]],[]⟩:=by
  unfold figure_heard_definition at hr
  have T:=an y28 <| @e_f.eq_1
  apply Spec.fn Tryz.func74 rfl
  focus (simp [Tryz.f74]<;>exact rfl)
  focus
    refine wB T (g:=?_)
    obtain ⟨⟨v9,v10⟩,h1,hr⟩:=bs hr
    try dsimp only at hr
    apply TD.cal (wn T) rfl goFn72 (figure_heard_early_spec h1) rfl rfl rfl
    repeat exact sd T
    refine wA T (g:=?_)
    obtain ⟨⟨v11,v12⟩,h2,hr⟩:=bs hr
    try dsimp only at hr
    apply TD.cal (wn T) rfl goFn111 (figure_heard_late_spec h2) rfl rfl rfl
    repeat exact sd T
    refine wA T (g:=?_)
    rcases ifs hr with ⟨h3,hr⟩|⟨h3,hr⟩
    · have T:=an h3 T
      refine wA T (g:=?_)
      rcases ifs hr with ⟨h4,hr⟩|⟨h4,hr⟩
      · have T:=an h4 T
        refine wa_ T (g:=?_)
        cases hr
        refine ⟨.inr rfl,_,(ry T),?_⟩
        exact wk_ T [] rfl .nil
      · have T:=an h4 T
        refine wA T (g:=?_)
        obtain ⟨⟨v13,v14⟩,h5,hr⟩:=bs hr
        try dsimp only at hr
        apply TO.cal (wn T) rfl goFn100 (figure_ends_times_spec h5) rfl rfl rfl
        repeat exact sd T
        refine wA T (g:=?_)
        obtain ⟨v15,h6,hr⟩:=bs hr
        apply TD.cal (wn T) rfl goFn118 (figure_down_spec h6) rfl rfl rfl
        repeat exact sd T
        refine wA T (g:=?_)
        obtain ⟨v16,h7,hr⟩:=bs hr
        apply TD.cal (wn T) rfl goFn119 (figure_up_spec h7) rfl rfl rfl
        repeat exact sd T
        refine wa_ T (g:=?_)
        obtain ⟨⟨v17,v18⟩,h8,hr⟩:=bs hr
        try dsimp only at hr
        apply TD.cal (wn T) rfl goFn114 (figure_between_spec h8) rfl rfl rfl
        repeat exact sd T
        refine wa_ T (g:=?_)
        cases hr
        refine ⟨.inr rfl,_,(ry T),?_⟩
        exact wk_ T [] rfl .nil
    · have T:=an h3 T
      refine wA T (g:=?_)
      obtain ⟨⟨v19,v20⟩,h9,hr⟩:=bs hr
      try dsimp only at hr
      apply TO.cal (wn T) rfl goFn100 (figure_ends_times_spec h9) rfl rfl rfl
      repeat exact sd T
      refine wA T (g:=?_)
      obtain ⟨v21,h10,hr⟩:=bs hr
      apply TD.cal (wn T) rfl goFn118 (figure_down_spec h10) rfl rfl rfl
      repeat exact sd T
      refine wA T (g:=?_)
      obtain ⟨v22,h11,hr⟩:=bs hr
      apply TD.cal (wn T) rfl goFn119 (figure_up_spec h11) rfl rfl rfl
      repeat exact sd T
      refine wa_ T (g:=?_)
      obtain ⟨⟨v23,v24⟩,h12,hr⟩:=bs hr
      try dsimp only at hr
      apply TD.cal (wn T) rfl goFn114 (figure_between_spec h12) rfl rfl rfl
      repeat exact sd T
      refine wa_ T (g:=?_)
      cases hr
      refine ⟨.inr rfl,_,(ry T),?_⟩
      exact wk_ T [] rfl .nil
  rfl

end Go.Rex

namespace Go.Rex
open Go.Proofs
open Go Go.Rex Go.RowKit
set_option maxRecDepth 100000
set_option maxHeartbeats 200000
def y29:=an @ag26 <| an @ag30 <| an @ag94 <| an @cs100 <| an @cs26 <| an @cs30 <| an @cs31 <| an @cs94 <| an @fd100_0 <| an @ok100 <| an @ok26 <| an @ok30 <| an @ok94 <| an @so149 <| an @st30 <| an @zc100 <| an @zc30 <| an @zc31 <| @zc94
theorem figure_DefinitionWithin_spec {v1 : Int} {v2 : (List Nat)} {v3 : Int} {v4 : Int} {v5 : Int} {v6 : Int} {v7 : Int} {v8 : Int} (hr : figure_DefinitionWithin v1 v2 v3 v4 v5 = some (v6,v7,v8)) : Spec (lim Tryz.prog) 30 [.agg [.v (.int .i64 v1),.list 1 (v2.map e_f),.v (.int .i64 v3),.v (.int .i64 v4)],.v (.int .i64 v5)] ⟨[.tuple [.agg [.v (.int .i64 v6),.v (.int .i64 v7)],.v (.int .i64 v8)]],[]⟩:=by
  unfold figure_DefinitionWithin at hr
  have T:=an y29 <| an @e_f.eq_1 <| @e_i.eq_1
  apply Spec.fn Tryz.func30 rfl
  focus (simp [Tryz.f30]<;>exact rfl)
  focus
    refine wB T (g:=?_)
    obtain ⟨⟨v9,v10,v11,v12,v13⟩,h1,hr⟩:=bs hr
    try dsimp only at hr
    apply TO.cal (wn T) rfl goFn53 (figure_hear_spec h1) rfl rfl rfl
    repeat exact sd T
    refine wa_ T (g:=?_)
    obtain ⟨v14,h2,hr⟩:=bs hr
    apply TO.cal (wn T) rfl goFn67 (figure_timeError_spec h2) rfl rfl rfl
    repeat exact sd T
    refine wa_ T (g:=?_)
    apply TO.bm e_i ([v13,v14] : List Int) (wn T) rfl (by simp only [zz,y29,e_f,e_i,Nat.reduceAdd,Nat.reduceMul,Nat.reduceLeDiff,Nat.reduceEqDiff,tslice,tparts];exact rfl) rfl
    repeat exact sd T
    refine wa_ T (g:=?_)
    obtain ⟨v15,h3,hr⟩:=bs hr
    apply TO.cal (wn T) rfl goFn54 (figure_firstError_spec h3) rfl rfl rfl
    repeat exact sd T
    refine wa_ T (g:=?_)
    rcases ifs hr with ⟨h4,hr⟩|⟨h4,hr⟩
    · have T:=an h4 T
      refine wa_ T (g:=?_)
      cases hr
      refine ⟨.inr rfl,_,(ry T),?_⟩
      exact wk_ T [] rfl .nil
    · have T:=an h4 T
      refine wA T (g:=?_)
      obtain ⟨⟨v16,v17,v18⟩,h5,hr⟩:=bs hr
      try dsimp only at hr
      apply TO.cal (wn T) rfl goFn74 (figure_heard_definition_spec h5) rfl rfl rfl
      repeat exact sd T
      refine wA T (g:=?_)
      cases hr
      refine ⟨.inr rfl,_,(ry T),?_⟩
      exact wk_ T [] rfl .nil
  rfl

end Go.Rex

namespace Go.Rex
open Go.Proofs
open Go Go.Rex Go.RowKit
set_option maxRecDepth 100000
set_option maxHeartbeats 200000
theorem base_Within_spec {v1 : Int} {v2 : Int} {v3 : Int} {v4 : Bool} (hr : base_Within v1 v2 v3 = some (v4)) : Spec (lim Tryz.prog) 25 [.v (.int .i64 v1),.v (.int .i64 v2),.v (.int .i64 v3)] ⟨[.v (.bool v4)],[]⟩:=by
  unfold base_Within at hr
  have T:=trivial
  apply Spec.fn Tryz.func25 rfl
  focus (simp [Tryz.f25]<;>exact rfl)
  focus
    refine wa_ T (g:=?_)
    rcases ifs hr with ⟨h1,hr⟩|⟨h1,hr⟩
    · have T:=an h1 T
      refine wa_ T (g:=?_)
      cases hr
      refine ⟨.inr rfl,_,(ry T),?_⟩
      exact wk_ T [] rfl .nil
    · have T:=an h1 T
      refine wa_ T (g:=?_)
      cases hr
      refine ⟨.inr rfl,_,(ry T),?_⟩
      exact wk_ T [] rfl .nil
  rfl

end Go.Rex

namespace Go.Rex
open Go.Proofs
open Go Go.Rex Go.RowKit
set_option maxRecDepth 100000
set_option maxHeartbeats 200000
theorem ref05_isRate_spec {v1 : Int} {v2 : Bool} (hr : ref05_isRate v1 = some (v2)) : Spec (lim Tryz.prog) 101 [.v (.int .i64 v1)] ⟨[.v (.bool v2)],[]⟩:=by
  unfold ref05_isRate at hr
  have T:=trivial
  apply Spec.fn Tryz.func101 rfl
  focus (simp [Tryz.f101]<;>exact rfl)
  focus
    refine wa_ T (g:=?_)
    obtain ⟨v3,h1,hr⟩:=bs hr
    apply TO.cal (wn T) rfl goFn25 (base_Within_spec h1) rfl rfl rfl
    repeat exact sd T
    refine wa_ T (g:=?_)
    cases hr
    refine ⟨.inr rfl,_,(ry T),?_⟩
    exact wr [] rfl .nil
  rfl

end Go.Rex

namespace Go.Rex
open Go.Proofs
open Go Go.Rex Go.RowKit
set_option maxRecDepth 100000
set_option maxHeartbeats 1000000
def y30:=an @un121 <| @un3
theorem base_IsWhole_spec {v1 : Nat} {v2 : Bool} (hr : base_IsWhole v1 = some (v2)) : Spec (lim Tryz.prog) 102 [.v (.float .f64 v1)] ⟨[.v (.bool v2)],[]⟩:=by
  unfold base_IsWhole at hr
  have T:=y30
  apply Spec.fn Tryz.func102 rfl
  focus (simp [Tryz.f102]<;>exact rfl)
  focus
    refine wa_ T (g:=?_)
    apply TO.pop1 (wn T) (pop_fcmp rfl rfl (by decide))
    repeat exact sd T
    refine wa_ T (g:=?_)
    rcases ifs hr with ⟨h1,hr⟩|⟨h1,hr⟩
    · have T:=an h1 T
      refine wa_ T (g:=?_)
      cases hr
      refine ⟨.inr rfl,_,(ry T),?_⟩
      exact wk_ T [] rfl .nil
    · have T:=an h1 T
      refine wa_ T (g:=?_)
      obtain ⟨v3,h2,hr⟩:=bs hr
      apply TO.pop1 (wn T) (pop_farith rfl rfl (by decide) (h2))
      repeat exact sd T
      refine wa_ T (g:=?_)
      apply TO.pop1 (wn T) (pop_fcmp rfl rfl (by decide))
      repeat exact sd T
      refine wa_ T (g:=?_)
      rcases ifs hr with ⟨h3,hr⟩|⟨h3,hr⟩
      · have T:=an h3 T
        refine wa_ T (g:=?_)
        cases hr
        refine ⟨.inr rfl,_,(ry T),?_⟩
        exact wk_ T [] rfl .nil
      · have T:=an h3 T
        refine wa_ T (g:=?_)
        apply TO.pop1 (wn T) (pop_fcmp rfl rfl (by decide))
        repeat exact sd T
        refine wa_ T (g:=?_)
        rcases ifs hr with ⟨h4,hr⟩|⟨h4,hr⟩
        · have T:=an h4 T
          refine wa_ T (g:=?_)
          apply TO.pop1 (wn T) (pop_fcmp rfl rfl (by decide))
          repeat exact sd T
          refine wa_ T (g:=?_)
          apply TO.pop1 (wn T) (pop_not rfl)
          repeat exact sd T
          refine wa_ T (g:=?_)
          rcases ifs hr with ⟨h5,hr⟩|⟨h5,hr⟩
          · have T:=an h5 T
            refine wa_ T (g:=?_)
            obtain ⟨v4,h6,hr⟩:=bs hr
            apply TO.pop1 (wn T) (cvt_float_int un121 un3 rfl h6)
            repeat exact sd T
            refine wa_ T (g:=?_)
            apply TO.pop1 (wn T) (cvt_int_float un3 un121 rfl)
            repeat exact sd T
            refine wa_ T (g:=?_)
            apply TO.pop1 (wn T) (pop_fcmp rfl rfl (by decide))
            repeat exact sd T
            refine wa_ T (g:=?_)
            cases hr
            refine ⟨.inr rfl,_,(ry T),?_⟩
            exact wk_ T [] rfl .nil
          · have T:=an h5 T
            refine wa_ T (g:=?_)
            cases hr
            refine ⟨.inr rfl,_,(ry T),?_⟩
            exact wk_ T [] rfl .nil
        · have T:=an h4 T
          refine wa_ T (g:=?_)
          apply TO.pop1 (wn T) (pop_not rfl)
          repeat exact sd T
          refine wa_ T (g:=?_)
          cases hr
          refine ⟨.inr rfl,_,(ry T),?_⟩
          exact wk_ T [] rfl .nil
  rfl

end Go.Rex

namespace Go.Rex
open Go.Proofs
open Go Go.Rex Go.RowKit
set_option maxRecDepth 100000
set_option maxHeartbeats 1000000
def y31:=an @ag22 <| an @ag3 <| an @ag82 <| an @cs82 <| an @fd24_0 <| an @fd24_1 <| an @ok82 <| an @so22 <| an @un121 <| an @un82 <| @wi64_0a1
theorem ref05_CheckResponse_spec {v1 : Int} {v2 : (List Nat)} {v3 : Int} {v4 : Int} (hr : ref05_CheckResponse v1 v2 = some (v3,v4)) : Spec (lim Tryz.prog) 57 [.agg [.v (.int .i64 v1),.list 1 (v2.map e_f)]] ⟨[.tuple [.v (.int .i64 v3),.v (.int .i64 v4)]],[]⟩:=by
  unfold ref05_CheckResponse at hr
  have T:=an y31 <| @e_f.eq_1
  apply Spec.fn Tryz.func57 rfl
  focus (simp [Tryz.f57]<;>exact rfl)
  focus
    refine wB T (g:=?_)
    obtain ⟨v5,h1,hr⟩:=bs hr
    apply TO.cal (wn T) rfl goFn101 (ref05_isRate_spec h1) rfl rfl rfl
    repeat exact sd T
    refine wa_ T (g:=?_)
    apply TO.pop1 (wn T) (pop_not rfl)
    repeat exact sd T
    refine wa_ T (g:=?_)
    rcases ifs hr with ⟨h2,hr⟩|⟨h2,hr⟩
    · have T:=an h2 T
      refine wC T (g:=?_)
      rcases ifs hr with ⟨h3,hr⟩|⟨h3,hr⟩
      · have T:=an h3 T
        refine wa_ T (g:=?_)
        cases hr
        refine ⟨.inr rfl,_,(ry T),?_⟩
        exact wk_ T [] rfl .nil
      · have T:=an h3 T
        refine wC T (g:=?_)
        rcases ifs hr with ⟨h4,hr⟩|⟨h4,hr⟩
        · have T:=an h4 T
          refine wa_ T (g:=?_)
          cases hr
          refine ⟨.inr rfl,_,(ry T),?_⟩
          exact wk_ T [] rfl .nil
        · have T:=an h4 T
          refine wa_ T (g:=?_)
          obtain ⟨v15,h19,hr⟩:=bs hr
          refine TX.loopE (step:=ref05_CheckResponse_l1 v2) (x:=0) h19 (fun v6=>⟨.junk :: .fptr true [.v (.int .i64 v1),.list 1 (v2.map e_f)] 0 :: .junk :: .junk :: .v (.int .i64 v6) :: .junk :: .junk :: .junk :: .junk :: .junk :: .junk :: .junk :: .junk :: .junk :: .junk :: .junk :: .junk :: .junk :: .junk :: .junk :: .junk :: .junk :: .junk :: .junk :: .junk :: .junk :: .junk :: .junk :: .junk :: .junk :: .junk :: .junk :: .junk :: .junk :: .junk :: .junk :: .junk :: .junk :: .junk :: .junk :: .junk :: .junk :: [],[]⟩) (fun e=>match e with|(.inl (v10,v11))=>(.ret,⟨.junk :: .junk :: .v (.int .i64 v10) :: .v (.int .i64 v11) :: .junk :: .junk :: .junk :: .junk :: .junk :: .junk :: .junk :: .junk :: .junk :: .junk :: .junk :: .junk :: .junk :: .junk :: .junk :: .junk :: .junk :: .junk :: .junk :: .junk :: .junk :: .junk :: .junk :: .junk :: .junk :: .junk :: .junk :: .junk :: .junk :: .junk :: .junk :: .junk :: .junk :: .junk :: .junk :: .junk :: .junk :: .junk :: [],[]⟩)|(.inr _)=>(.exit 0,⟨.junk :: .junk :: .junk :: .junk :: .junk :: .junk :: .junk :: .junk :: .junk :: .junk :: .junk :: .junk :: .junk :: .junk :: .junk :: .junk :: .junk :: .junk :: .junk :: .junk :: .junk :: .junk :: .junk :: .junk :: .junk :: .junk :: .junk :: .junk :: .junk :: .junk :: .junk :: .junk :: .junk :: .junk :: .junk :: .junk :: .junk :: .junk :: .junk :: .junk :: .junk :: .junk :: [],[]⟩)) ?_ ?_ ?_ ?_
          · rintro v6 v0 hr
            dsimp only [ref05_CheckResponse_l1] at hr
            try dsimp only
            refine wC T (g:=?_)
            rcases ifs hr with ⟨h12,hr⟩|⟨h12,hr⟩
            · have T:=an h12 T
              refine wA T (g:=?_)
              obtain ⟨v12,h13,hr⟩:=bs hr
              have T:=an (gx e_f h13) T
              refine wA T (g:=?_)
              obtain ⟨v13,h14,hr⟩:=bs hr
              apply TO.pop1 (wn T) (cvt_float_float un82 un121 rfl h14)
              repeat exact sd T
              refine wa_ T (g:=?_)
              obtain ⟨v14,h15,hr⟩:=bs hr
              apply TO.cal (wn T) rfl goFn102 (base_IsWhole_spec h15) rfl rfl rfl
              repeat exact sd T
              refine wa_ T (g:=?_)
              apply TO.pop1 (wn T) (pop_not rfl)
              repeat exact sd T
              refine wa_ T (g:=?_)
              rcases ifs hr with ⟨h16,hr⟩|⟨h16,hr⟩
              · have T:=an h16 T
                refine wa_ T (g:=?_)
                apply TO.pop1 (wn T) (pop_fcmp rfl rfl (by decide))
                repeat exact sd T
                refine wa_ T (g:=?_)
                rcases ifs hr with ⟨h17,hr⟩|⟨h17,hr⟩
                · have T:=an h17 T
                  refine wa_ T (g:=?_)
                  cases hr
                  refine ⟨rfl,?_⟩
                  exact wk_ T [] rfl .nil
                · have T:=an h17 T
                  refine wa_ T (g:=?_)
                  apply TO.pop1 (wn T) (pop_fcmp rfl rfl (by decide))
                  repeat exact sd T
                  refine wa_ T (g:=?_)
                  rcases ifs hr with ⟨h18,hr⟩|⟨h18,hr⟩
                  · have T:=an h18 T
                    refine wa_ T (g:=?_)
                    cases hr
                    refine ⟨rfl,?_⟩
                    exact wk_ T [] rfl .nil
                  · have T:=an h18 T
                    refine wa_ T (g:=?_)
                    cases hr
                    refine ⟨rfl,?_⟩
                    exact wk_ T [] rfl .nil
              · have T:=an h16 T
                refine wa_ T (g:=?_)
                cases hr
                refine ⟨rfl,?_⟩
                exact wk_ T [] rfl .nil
            · have T:=an h12 T
              refine wa_ T (g:=?_)
              cases hr
              refine ⟨rfl,?_⟩
              exact wk_ T [] rfl .nil
          · intro e h;rcases e with _|e<;>cases h
          · try dsimp only
            rcases v15 with ⟨v16,v17⟩|_
            · try dsimp only at hr
              try dsimp only
              refine wa_ T (g:=?_)
              cases hr
              refine ⟨.inr rfl,_,(ry T),?_⟩
              exact wk_ T [] rfl .nil
            · try dsimp only at hr
              try dsimp only
              refine wa_ T (g:=?_)
              cases hr
              refine ⟨.inr rfl,_,(ry T),?_⟩
              exact wk_ T [] rfl .nil
          · try dsimp only
            exact wk_ T [] rfl .nil
    · have T:=an h2 T
      refine wa_ T (g:=?_)
      cases hr
      refine ⟨.inr rfl,_,(ry T),?_⟩
      exact wk_ T [] rfl .nil
  rfl

end Go.Rex

namespace Go.Rex
open Go.Proofs
open Go Go.Rex Go.RowKit
set_option maxRecDepth 100000
set_option maxHeartbeats 200000
def y32:=an @ag24 <| an @cs24 <| @ok24
theorem ref05_ResponseErr_spec {v1 : Int} {v2 : (List Nat)} {v3 : Int} (hr : ref05_ResponseErr v1 v2 = some (v3)) : Spec (lim Tryz.prog) 18 [.agg [.v (.int .i64 v1),.list 1 (v2.map e_f)]] ⟨[.v (.int .i64 v3)],[]⟩:=by
  unfold ref05_ResponseErr at hr
  have T:=an y32 <| @e_f.eq_1
  apply Spec.fn Tryz.func18 rfl
  focus (simp [Tryz.f18]<;>exact rfl)
  focus
    refine wB T (g:=?_)
    obtain ⟨⟨v4,v5⟩,h1,hr⟩:=bs hr
    try dsimp only at hr
    apply TO.cal (wn T) rfl goFn57 (ref05_CheckResponse_spec h1) rfl rfl rfl
    repeat exact sd T
    refine wa_ T (g:=?_)
    cases hr
    refine ⟨.inr rfl,_,(ry T),?_⟩
    exact wr [] rfl .nil
  rfl

end Go.Rex

namespace Go.Rex
open Go.Proofs
open Go Go.Rex Go.RowKit
set_option maxRecDepth 100000
set_option maxHeartbeats 200000
def y33:=an @ag24 <| an @ag3 <| an @cs24 <| an @fd26_0 <| an @fd26_1 <| an @fd26_2 <| @ok24
theorem ref05_CheckAsk_spec {v1 : Int} {v2 : (List Nat)} {v3 : Int} {v4 : Int} {v5 : Int} {v6 : Int} (hr : ref05_CheckAsk v1 v2 v3 v4 = some (v5,v6)) : Spec (lim Tryz.prog) 58 [.agg [.v (.int .i64 v1),.list 1 (v2.map e_f),.v (.int .i64 v3),.v (.int .i64 v4)]] ⟨[.tuple [.v (.int .i64 v5),.v (.int .i64 v6)]],[]⟩:=by
  unfold ref05_CheckAsk at hr
  have T:=an y33 <| @e_f.eq_1
  apply Spec.fn Tryz.func58 rfl
  focus (simp [Tryz.f58]<;>exact rfl)
  focus
    refine wB T (g:=?_)
    obtain ⟨⟨v7,v8⟩,h1,hr⟩:=bs hr
    try dsimp only at hr
    apply TO.cal (wn T) rfl goFn57 (ref05_CheckResponse_spec h1) rfl rfl rfl
    repeat exact sd T
    refine wa_ T (g:=?_)
    rcases ifs hr with ⟨h2,hr⟩|⟨h2,hr⟩
    · have T:=an h2 T
      refine wa_ T (g:=?_)
      cases hr
      refine ⟨.inr rfl,_,(ry T),?_⟩
      exact wk_ T [] rfl .nil
    · have T:=an h2 T
      refine wA T (g:=?_)
      obtain ⟨v9,h3,hr⟩:=bs hr
      apply TO.cal (wn T) rfl goFn25 (base_Within_spec h3) rfl rfl rfl
      repeat exact sd T
      refine wa_ T (g:=?_)
      apply TO.pop1 (wn T) (pop_not rfl)
      repeat exact sd T
      refine wa_ T (g:=?_)
      rcases ifs hr with ⟨h4,hr⟩|⟨h4,hr⟩
      · have T:=an h4 T
        refine wA T (g:=?_)
        obtain ⟨v10,h5,hr⟩:=bs hr
        apply TO.cal (wn T) rfl goFn25 (base_Within_spec h5) rfl rfl rfl
        repeat exact sd T
        refine wa_ T (g:=?_)
        apply TO.pop1 (wn T) (pop_not rfl)
        repeat exact sd T
        refine wa_ T (g:=?_)
        rcases ifs hr with ⟨h6,hr⟩|⟨h6,hr⟩
        · have T:=an h6 T
          refine wa_ T (g:=?_)
          cases hr
          refine ⟨.inr rfl,_,(ry T),?_⟩
          exact wk_ T [] rfl .nil
        · have T:=an h6 T
          refine wa_ T (g:=?_)
          cases hr
          refine ⟨.inr rfl,_,(ry T),?_⟩
          exact wk_ T [] rfl .nil
      · have T:=an h4 T
        refine wa_ T (g:=?_)
        cases hr
        refine ⟨.inr rfl,_,(ry T),?_⟩
        exact wk_ T [] rfl .nil
  rfl

end Go.Rex

namespace Go.Rex
open Go.Proofs
open Go Go.Rex Go.RowKit
set_option maxRecDepth 100000
set_option maxHeartbeats 200000
def y34:=an @ag26 <| an @cs26 <| @ok26
theorem ref05_AskErr_spec {v1 : Int} {v2 : (List Nat)} {v3 : Int} {v4 : Int} {v5 : Int} (hr : ref05_AskErr v1 v2 v3 v4 = some (v5)) : Spec (lim Tryz.prog) 19 [.agg [.v (.int .i64 v1),.list 1 (v2.map e_f),.v (.int .i64 v3),.v (.int .i64 v4)]] ⟨[.v (.int .i64 v5)],[]⟩:=by
  unfold ref05_AskErr at hr
  have T:=an y34 <| @e_f.eq_1
  apply Spec.fn Tryz.func19 rfl
  focus (simp [Tryz.f19]<;>exact rfl)
  focus
    refine wB T (g:=?_)
    obtain ⟨⟨v6,v7⟩,h1,hr⟩:=bs hr
    try dsimp only at hr
    apply TO.cal (wn T) rfl goFn58 (ref05_CheckAsk_spec h1) rfl rfl rfl
    repeat exact sd T
    refine wa_ T (g:=?_)
    cases hr
    refine ⟨.inr rfl,_,(ry T),?_⟩
    exact wr [] rfl .nil
  rfl

end Go.Rex

namespace Go.Rex
open Go.Proofs
open Go Go.Rex Go.RowKit
set_option maxRecDepth 100000
set_option maxHeartbeats 200000
theorem ref05_TimeErr_spec {v1 : Int} {v2 : Int} (hr : ref05_TimeErr v1 = some (v2)) : Spec (lim Tryz.prog) 27 [.v (.int .i64 v1)] ⟨[.v (.int .i64 v2)],[]⟩:=by
  unfold ref05_TimeErr at hr
  have T:=trivial
  apply Spec.fn Tryz.func27 rfl
  focus (simp [Tryz.f27]<;>exact rfl)
  focus
    refine wa_ T (g:=?_)
    obtain ⟨v3,h1,hr⟩:=bs hr
    apply TO.cal (wn T) rfl goFn25 (base_Within_spec h1) rfl rfl rfl
    repeat exact sd T
    refine wa_ T (g:=?_)
    apply TO.pop1 (wn T) (pop_not rfl)
    repeat exact sd T
    refine wa_ T (g:=?_)
    rcases ifs hr with ⟨h2,hr⟩|⟨h2,hr⟩
    · have T:=an h2 T
      refine wa_ T (g:=?_)
      cases hr
      refine ⟨.inr rfl,_,(ry T),?_⟩
      exact wk_ T [] rfl .nil
    · have T:=an h2 T
      refine wa_ T (g:=?_)
      cases hr
      refine ⟨.inr rfl,_,(ry T),?_⟩
      exact wk_ T [] rfl .nil
  rfl

end Go.Rex

namespace Go.Rex
open Go.Proofs
open Go Go.Rex Go.RowKit
set_option maxRecDepth 100000
set_option maxHeartbeats 200000
def y35:=an @ag24 <| an @ag26 <| an @cs24 <| an @cs26 <| an @ok24 <| an @ok26 <| an @st26 <| @zc26
theorem ref05_Plain_spec {v1 : Int} {v2 : (List Nat)} {v3 : Int} {v4 : (List Nat)} (hr : ref05_Plain v1 v2 = some (v3,v4)) : Spec (lim Tryz.prog) 22 [.agg [.v (.int .i64 v1),.list 1 (v2.map e_f)]] ⟨[.agg [.v (.int .i64 v3),.list 1 (v4.map e_f),.v (.int .i64 0),.v (.int .i64 0)]],[]⟩:=by
  unfold ref05_Plain at hr
  have T:=an y35 <| @e_f.eq_1
  apply Spec.fn Tryz.func22 rfl
  focus (simp [Tryz.f22]<;>exact rfl)
  focus
    refine wB T (g:=?_)
    cases hr
    refine ⟨.inr rfl,_,(ry T),?_⟩
    exact wr [] rfl .nil
  rfl

end Go.Rex

namespace Go.Rex
open Go.Proofs
open Go Go.Rex Go.RowKit
set_option maxRecDepth 100000
set_option maxHeartbeats 200000
theorem base_Floor_spec {v1 : Int} {v2 : Int} {v3 : Int} (hr : base_Floor v1 v2 = some (v3)) : Spec (lim Tryz.prog) 61 [.v (.int .i64 v1),.v (.int .i64 v2)] ⟨[.v (.int .i64 v3)],[]⟩:=by
  unfold base_Floor at hr
  have T:=trivial
  apply Spec.fn Tryz.func61 rfl
  focus (simp [Tryz.f61]<;>exact rfl)
  focus
    refine wa_ T (g:=?_)
    by_cases h1 : v2 = 0
    · rw [if_pos h1] at hr
      cases hr
    · rw [if_neg h1] at hr
      have T:=an h1 T
      refine wa_ T (g:=?_)
      rcases ifs hr with ⟨h2,hr⟩|⟨h2,hr⟩
      · have T:=an h2 T
        refine wa_ T (g:=?_)
        cases hr
        refine ⟨.inr rfl,_,(ry T),?_⟩
        exact wk_ T [] rfl .nil
      · have T:=an h2 T
        refine wa_ T (g:=?_)
        cases hr
        refine ⟨.inr rfl,_,(ry T),?_⟩
        exact wk_ T [] rfl .nil
  rfl

end Go.Rex

namespace Go.Rex
open Go.Proofs
open Go Go.Rex Go.RowKit
set_option maxRecDepth 100000
set_option maxHeartbeats 200000
theorem base_Ceil_spec {v1 : Int} {v2 : Int} {v3 : Int} (hr : base_Ceil v1 v2 = some (v3)) : Spec (lim Tryz.prog) 62 [.v (.int .i64 v1),.v (.int .i64 v2)] ⟨[.v (.int .i64 v3)],[]⟩:=by
  unfold base_Ceil at hr
  have T:=trivial
  apply Spec.fn Tryz.func62 rfl
  focus (simp [Tryz.f62]<;>exact rfl)
  focus
    refine wa_ T (g:=?_)
    apply TO.pop1 (wn T) (pop_neg rfl)
    repeat exact sd T
    refine wa_ T (g:=?_)
    obtain ⟨v4,h1,hr⟩:=bs hr
    apply TO.cal (wn T) rfl goFn61 (base_Floor_spec h1) rfl rfl rfl
    repeat exact sd T
    refine wa_ T (g:=?_)
    apply TO.pop1 (wn T) (pop_neg rfl)
    repeat exact sd T
    refine wa_ T (g:=?_)
    cases hr
    refine ⟨.inr rfl,_,(ry T),?_⟩
    exact wr [] rfl .nil
  rfl

end Go.Rex

namespace Go.Rex
open Go.Proofs
open Go Go.Rex Go.RowKit
set_option maxRecDepth 100000
set_option maxHeartbeats 200000
theorem ref05_SampleAt_spec {v1 : Int} {v2 : Int} {v3 : Int} {v4 : Int} (hr : ref05_SampleAt v1 v2 = some (v3,v4)) : Spec (lim Tryz.prog) 69 [.v (.int .i64 v1),.v (.int .i64 v2)] ⟨[.tuple [.v (.int .i64 v3),.v (.int .i64 v4)]],[]⟩:=by
  unfold ref05_SampleAt at hr
  have T:=trivial
  apply Spec.fn Tryz.func69 rfl
  focus (simp [Tryz.f69]<;>exact rfl)
  focus
    refine wa_ T (g:=?_)
    obtain ⟨v5,h1,hr⟩:=bs hr
    apply TO.cal (wn T) rfl goFn101 (ref05_isRate_spec h1) rfl rfl rfl
    repeat exact sd T
    refine wa_ T (g:=?_)
    apply TO.pop1 (wn T) (pop_not rfl)
    repeat exact sd T
    refine wa_ T (g:=?_)
    rcases ifs hr with ⟨h2,hr⟩|⟨h2,hr⟩
    · have T:=an h2 T
      refine wa_ T (g:=?_)
      obtain ⟨v6,h3,hr⟩:=bs hr
      apply TO.cal (wn T) rfl goFn27 (ref05_TimeErr_spec h3) rfl rfl rfl
      repeat exact sd T
      refine wa_ T (g:=?_)
      rcases ifs hr with ⟨h4,hr⟩|⟨h4,hr⟩
      · have T:=an h4 T
        refine wa_ T (g:=?_)
        cases hr
        refine ⟨.inr rfl,_,(ry T),?_⟩
        exact wk_ T [] rfl .nil
      · have T:=an h4 T
        refine wa_ T (g:=?_)
        obtain ⟨v7,h5,hr⟩:=bs hr
        apply TO.cal (wn T) rfl goFn62 (base_Ceil_spec h5) rfl rfl rfl
        repeat exact sd T
        refine wa_ T (g:=?_)
        cases hr
        refine ⟨.inr rfl,_,(ry T),?_⟩
        exact wk_ T [] rfl .nil
    · have T:=an h2 T
      refine wa_ T (g:=?_)
      cases hr
      refine ⟨.inr rfl,_,(ry T),?_⟩
      exact wk_ T [] rfl .nil
  rfl

end Go.Rex

namespace Go.Rex
open Go.Proofs
open Go Go.Rex Go.RowKit
set_option maxRecDepth 100000
set_option maxHeartbeats 200000
theorem base_Size_spec {v1 : Int} {v2 : Int} (hr : base_Size v1 = some (v2)) : Spec (lim Tryz.prog) 122 [.v (.int .i64 v1)] ⟨[.v (.int .i64 v2)],[]⟩:=by
  unfold base_Size at hr
  have T:=trivial
  apply Spec.fn Tryz.func122 rfl
  focus (simp [Tryz.f122]<;>exact rfl)
  focus
    refine wa_ T (g:=?_)
    apply TO.pop1 (wn T) (pop_neg rfl)
    repeat exact sd T
    refine wa_ T (g:=?_)
    apply TO.pop1 (wn T) (pop_max rfl rfl)
    repeat exact sd T
    refine wa_ T (g:=?_)
    cases hr
    refine ⟨.inr rfl,_,(ry T),?_⟩
    exact wr [] rfl .nil
  rfl

end Go.Rex

namespace Go.Rex
open Go.Proofs
open Go Go.Rex Go.RowKit
set_option maxRecDepth 100000
set_option maxHeartbeats 200000
def y36:=an @ag22 <| an @ag3 <| an @ag30 <| an @ag82 <| an @cs30 <| an @cs82 <| an @fd24_1 <| an @fd26_0 <| an @fd26_1 <| an @ok30 <| an @ok82 <| an @so22 <| an @st30 <| an @un3 <| an @un82 <| @zc30
theorem ref05_square_spec {v1 : Int} {v2 : (List Nat)} {v3 : Int} {v4 : Int} {v5 : Int} {v6 : Int} {v7 : Int} (hr : ref05_square v1 v2 v3 v4 v5 = some (v6,v7)) : Spec (lim Tryz.prog) 79 [.agg [.v (.int .i64 v1),.list 1 (v2.map e_f),.v (.int .i64 v3),.v (.int .i64 v4)],.v (.int .i64 v5)] ⟨[.agg [.v (.int .i64 v6),.v (.int .i64 v7)]],[]⟩:=by
  unfold ref05_square at hr
  have T:=an y36 <| @e_f.eq_1
  apply Spec.fn Tryz.func79 rfl
  focus (simp [Tryz.f79]<;>exact rfl)
  focus
    refine wB T (g:=?_)
    obtain ⟨v8,h1,hr⟩:=bs hr
    have T:=an (gx e_f h1) T
    refine wA T (g:=?_)
    obtain ⟨v9,h2,hr⟩:=bs hr
    apply TO.pop1 (wn T) (cvt_float_int un82 un3 rfl h2)
    repeat exact sd T
    refine wa_ T (g:=?_)
    obtain ⟨v10,h3,hr⟩:=bs hr
    apply TO.cal (wn T) rfl goFn122 (base_Size_spec h3) rfl rfl rfl
    repeat exact sd T
    refine wA T (g:=?_)
    apply TD.pop1 (wn T) (pop_max rfl rfl)
    repeat exact sd T
    refine wA T (g:=?_)
    cases hr
    refine ⟨.inr rfl,_,(ry T),?_⟩
    exact wr [] rfl .nil
  rfl

end Go.Rex

namespace Go.Rex
open Go.Proofs
open Go Go.Rex Go.RowKit
set_option maxRecDepth 100000
set_option maxHeartbeats 200000
def y37:=an @ag22 <| an @ag26 <| an @ag3 <| an @ag30 <| an @cs26 <| an @cs3 <| an @cs30 <| an @fd158_0 <| an @fd158_1 <| an @fd24_1 <| an @fd26_0 <| an @fd26_2 <| an @fd30_0 <| an @fd30_1 <| an @ok26 <| an @ok3 <| an @ok30 <| an @so22 <| an @st30 <| @zc30
theorem ref05_EnergyWithin_spec {v1 : Int} {v2 : (List Nat)} {v3 : Int} {v4 : Int} {v5 : Int} {v6 : Int} {v7 : Int} {v8 : Int} (hr : ref05_EnergyWithin v1 v2 v3 v4 v5 v6 = some (v7,v8)) : Spec (lim Tryz.prog) 103 [.agg [.v (.int .i64 v1),.list 1 (v2.map e_f),.v (.int .i64 v3),.v (.int .i64 v4)],.agg [.v (.int .i64 v5),.v (.int .i64 v6)]] ⟨[.agg [.v (.int .i64 v7),.v (.int .i64 v8)]],[]⟩:=by
  unfold ref05_EnergyWithin at hr
  have T:=an y37 <| @e_f.eq_1
  apply Spec.fn Tryz.func103 rfl
  focus (simp [Tryz.f103]<;>exact rfl)
  focus
    refine wB T (g:=?_)
    obtain ⟨⟨v18,v19⟩,h5,hr⟩:=bs hr
    try dsimp only at hr
    refine TX.loopE (step:=ref05_EnergyWithin_l1 v1 v2 v3 v4 v6) (x:=(0,0,v5)) h5 (fun (v9,v10,v11)=>⟨.junk :: .junk :: .fptr true [.v (.int .i64 v1),.list 1 (v2.map e_f),.v (.int .i64 v3),.v (.int .i64 v4)] 0 :: .fptr true [.v (.int .i64 v5),.v (.int .i64 v6)] 0 :: .lptr 0 0 0 :: .lptr 1 0 0 :: .v (.int .i64 v11) :: .junk :: .junk :: .junk :: .junk :: .junk :: .junk :: .junk :: .junk :: .junk :: .junk :: .junk :: .junk :: .junk :: .junk :: .junk :: .junk :: .junk :: .junk :: .junk :: .junk :: .junk :: .junk :: .junk :: .junk :: .junk :: .junk :: .junk :: .junk :: .junk :: .junk :: .junk :: .junk :: .junk :: .junk :: .junk :: .junk :: .junk :: .junk :: [],[.var [.v (.int .i64 0),.v (.int .i64 0)],.var [.v (.int .i64 v9),.v (.int .i64 v10)]]⟩) (fun (v14,v15)=>(.exit 0,⟨.junk :: .junk :: .fptr true [.v (.int .i64 v1),.list 1 (v2.map e_f),.v (.int .i64 v3),.v (.int .i64 v4)] 0 :: .fptr true [.v (.int .i64 v5),.v (.int .i64 v6)] 0 :: .lptr 0 0 0 :: .lptr 1 0 0 :: .junk :: .junk :: .junk :: .junk :: .junk :: .junk :: .junk :: .junk :: .junk :: .junk :: .junk :: .junk :: .junk :: .junk :: .junk :: .junk :: .junk :: .junk :: .junk :: .junk :: .junk :: .junk :: .junk :: .junk :: .junk :: .junk :: .junk :: .junk :: .junk :: .junk :: .junk :: .junk :: .junk :: .junk :: .junk :: .junk :: .junk :: .junk :: .junk :: [],[.var [.v (.int .i64 0),.v (.int .i64 0)],.var [.v (.int .i64 v14),.v (.int .i64 v15)]]⟩)) ?_ ?_ ?_ ?_
    · rintro ⟨v9,v10,v11⟩ v0 hr
      dsimp only [ref05_EnergyWithin_l1] at hr
      try dsimp only
      refine wA T (g:=?_)
      rcases ifs hr with ⟨h3,hr⟩|⟨h3,hr⟩
      · have T:=an h3 T
        refine wA T (g:=?_)
        obtain ⟨⟨v16,v17⟩,h4,hr⟩:=bs hr
        try dsimp only at hr
        apply TO.cal (wn T) rfl goFn79 (ref05_square_spec h4) rfl rfl rfl
        repeat exact sd T
        refine wA T (g:=?_)
        cases hr
        refine ⟨rfl,?_⟩
        exact wk_ T [some 0,some 1] rfl (rv (rv .nil rfl) rfl)
      · have T:=an h3 T
        refine wa_ T (g:=?_)
        cases hr
        refine ⟨rfl,?_⟩
        exact wk_ T [some 0,some 1] rfl (rv (rv .nil rfl) rfl)
    · intro e h;cases h
    · try dsimp only
      refine wC T (g:=?_)
      rcases ifs hr with ⟨h6,hr⟩|⟨h6,hr⟩
      · have T:=an h6 T
        refine wA T (g:=?_)
        cases hr
        refine ⟨.inr rfl,_,(ry T),?_⟩
        exact wk_ T [] rfl .nil
      · have T:=an h6 T
        refine wA T (g:=?_)
        cases hr
        refine ⟨.inr rfl,_,(ry T),?_⟩
        exact wk_ T [] rfl .nil
    · try dsimp only
      exact wr [some 0,some 1] rfl (rv (rv .nil rfl) rfl)
  rfl

end Go.Rex

namespace Go.Rex
open Go.Proofs
open Go Go.Rex Go.RowKit
set_option maxRecDepth 100000
set_option maxHeartbeats 200000
def y38:=an @ag22 <| an @ag26 <| an @ag3 <| an @ag30 <| an @cs26 <| an @cs3 <| an @cs30 <| an @fd24_0 <| an @fd24_1 <| an @fd26_0 <| an @fd26_2 <| an @fd30_1 <| an @ok26 <| an @ok3 <| an @ok30 <| an @so22 <| an @st158 <| an @zc158 <| @zc30
theorem ref05_parts_spec {v1 : Int} {v2 : (List Nat)} {v3 : Int} {v4 : Int} {v5 : Int} {v6 : Int} {v7 : Int} {v8 : Int} {v9 : Int} (hr : ref05_parts v1 v2 v3 v4 v5 = some (v6,v7,v8,v9)) : Spec (lim Tryz.prog) 70 [.agg [.v (.int .i64 v1),.list 1 (v2.map e_f),.v (.int .i64 v3),.v (.int .i64 v4)],.v (.int .i64 v5)] ⟨[.tuple [.agg [.v (.int .i64 v6),.v (.int .i64 v7)],.agg [.v (.int .i64 v8),.v (.int .i64 v9)]]],[]⟩:=by
  unfold ref05_parts at hr
  have T:=an y38 <| @e_f.eq_1
  apply Spec.fn Tryz.func70 rfl
  focus (simp [Tryz.f70]<;>exact rfl)
  focus
    refine wD T (g:=?_)
    obtain ⟨⟨v10,v11⟩,h1,hr⟩:=bs hr
    try dsimp only at hr
    apply TO.cal (wn T) rfl goFn69 (ref05_SampleAt_spec h1) rfl rfl rfl
    repeat exact sd T
    refine wa_ T (g:=?_)
    apply TO.pop1 (wn T) (pop_min rfl rfl)
    repeat exact sd T
    refine wA T (g:=?_)
    obtain ⟨⟨v12,v13⟩,h2,hr⟩:=bs hr
    try dsimp only at hr
    apply TO.cal (wn T) rfl goFn103 (ref05_EnergyWithin_spec h2) rfl rfl rfl
    repeat exact sd T
    refine wa_ T (g:=?_)
    rcases ifs hr with ⟨h3,hr⟩|⟨h3,hr⟩
    · have T:=an h3 T
      refine wA T (g:=?_)
      obtain ⟨⟨v14,v15⟩,h4,hr⟩:=bs hr
      try dsimp only at hr
      apply TD.cal (wn T) rfl goFn103 (ref05_EnergyWithin_spec h4) rfl rfl rfl
      repeat exact sd T
      refine wa_ T (g:=?_)
      cases hr
      refine ⟨.inr rfl,_,(ry T),?_⟩
      exact wk_ T [] rfl .nil
    · have T:=an h3 T
      refine wA T (g:=?_)
      obtain ⟨⟨v16,v17⟩,h5,hr⟩:=bs hr
      try dsimp only at hr
      apply TD.cal (wn T) rfl goFn103 (ref05_EnergyWithin_spec h5) rfl rfl rfl
      repeat exact sd T
      refine wa_ T (g:=?_)
      cases hr
      refine ⟨.inr rfl,_,(ry T),?_⟩
      exact wk_ T [] rfl .nil
  rfl

end Go.Rex

namespace Go.Rex
open Go.Proofs
open Go Go.Rex Go.RowKit
set_option maxRecDepth 100000
set_option maxHeartbeats 200000
def y39:=an @ag22 <| an @ag26 <| an @ag30 <| an @cs26 <| an @cs30 <| an @fd24_1 <| an @fd26_0 <| an @ok26 <| an @ok30 <| an @so22 <| an @st158 <| an @zc158 <| @zc30
theorem ref05_sum_spec {v1 : Int} {v2 : (List Nat)} {v3 : Int} {v4 : Int} {v5 : Int} {v6 : Int} {v7 : Int} (hr : ref05_sum v1 v2 v3 v4 v5 = some (v6,v7)) : Spec (lim Tryz.prog) 59 [.agg [.v (.int .i64 v1),.list 1 (v2.map e_f),.v (.int .i64 v3),.v (.int .i64 v4)],.v (.int .i64 v5)] ⟨[.agg [.v (.int .i64 v6),.v (.int .i64 v7)]],[]⟩:=by
  unfold ref05_sum at hr
  have T:=an y39 <| @e_f.eq_1
  apply Spec.fn Tryz.func59 rfl
  focus (simp [Tryz.f59]<;>exact rfl)
  focus
    refine wD T (g:=?_)
    obtain ⟨⟨v8,v9⟩,h1,hr⟩:=bs hr
    try dsimp only at hr
    apply TO.cal (wn T) rfl goFn103 (ref05_EnergyWithin_spec h1) rfl rfl rfl
    repeat exact sd T
    refine wa_ T (g:=?_)
    cases hr
    refine ⟨.inr rfl,_,(ry T),?_⟩
    exact wr [] rfl .nil
  rfl

end Go.Rex

namespace Go.Rex
open Go.Proofs
open Go Go.Rex Go.RowKit
set_option maxRecDepth 100000
set_option maxHeartbeats 200000
theorem base_Gcd_spec {v1 : Int} {v2 : Int} {v3 : Int} (hr : base_Gcd v1 v2 = some (v3)) : Spec (lim Tryz.prog) 145 [.v (.int .i64 v1),.v (.int .i64 v2)] ⟨[.v (.int .i64 v3)],[]⟩:=by
  unfold base_Gcd at hr
  have T:=trivial
  apply Spec.fn Tryz.func145 rfl
  focus (simp [Tryz.f145]<;>exact rfl)
  focus
    refine wa_ T (g:=?_)
    obtain ⟨v7,h5,hr⟩:=bs hr
    refine TX.loopE (step:=base_Gcd_l1) (x:=(v1,v2)) h5 (fun (v4,v5)=>⟨.v (.int .i64 v4) :: .v (.int .i64 v5) :: .junk :: .junk :: .junk :: .junk :: .junk :: .junk :: .junk :: .junk :: .junk :: .junk :: .junk :: [],[]⟩) (fun v6=>(.exit 0,⟨.v (.int .i64 v6) :: .junk :: .junk :: .junk :: .junk :: .junk :: .junk :: .junk :: .junk :: .junk :: .junk :: .junk :: .junk :: [],[]⟩)) ?_ ?_ ?_ ?_
    · rintro ⟨v4,v5⟩ v0 hr
      dsimp only [base_Gcd_l1] at hr
      try dsimp only
      refine wa_ T (g:=?_)
      rcases ifs hr with ⟨h3,hr⟩|⟨h3,hr⟩
      · have T:=an h3 T
        refine wa_ T (g:=?_)
        by_cases h4 : v5 = 0
        · rw [if_pos h4] at hr
          cases hr
        · rw [if_neg h4] at hr
          have T:=an h4 T
          refine wa_ T (g:=?_)
          cases hr
          refine ⟨rfl,?_⟩
          exact wk_ T [] rfl .nil
      · have T:=an h3 T
        refine wa_ T (g:=?_)
        cases hr
        refine ⟨rfl,?_⟩
        exact wk_ T [] rfl .nil
    · intro e h;cases h
    · try dsimp only
      refine wa_ T (g:=?_)
      obtain ⟨v8,h6,hr⟩:=bs hr
      apply TO.cal (wn T) rfl goFn122 (base_Size_spec h6) rfl rfl rfl
      repeat exact sd T
      refine wa_ T (g:=?_)
      cases hr
      refine ⟨.inr rfl,_,(ry T),?_⟩
      exact wr [] rfl .nil
    · try dsimp only
      exact wr [] rfl .nil
  rfl

end Go.Rex

namespace Go.Rex
open Go.Proofs
open Go Go.Rex Go.RowKit
set_option maxRecDepth 100000
set_option maxHeartbeats 200000
def y40:=an @ag50 <| an @cs50 <| an @ok50 <| an @st50 <| @zc50
theorem base_Lowest_spec {v1 : Int} {v2 : Int} {v3 : Int} {v4 : Int} (hr : base_Lowest v1 v2 = some (v3,v4)) : Spec (lim Tryz.prog) 120 [.v (.int .i64 v1),.v (.int .i64 v2)] ⟨[.agg [.v (.int .i64 v3),.v (.int .i64 v4)]],[]⟩:=by
  unfold base_Lowest at hr
  have T:=y40
  apply Spec.fn Tryz.func120 rfl
  focus (simp [Tryz.f120]<;>exact rfl)
  focus
    refine wa_ T (g:=?_)
    obtain ⟨v5,h1,hr⟩:=bs hr
    apply TO.cal (wn T) rfl goFn145 (base_Gcd_spec h1) rfl rfl rfl
    repeat exact sd T
    refine wa_ T (g:=?_)
    rcases ifs hr with ⟨h2,hr⟩|⟨h2,hr⟩
    · have T:=an h2 T
      refine wa_ T (g:=?_)
      apply TO.pop1 (wn T) (pop_neg rfl)
      repeat exact sd T
      refine wa_ T (g:=?_)
      by_cases h3 : (IntKind.i64.wrap (0 - v5)) = 0
      · rw [if_pos h3] at hr
        cases hr
      · rw [if_neg h3] at hr
        have T:=an h3 T
        refine wa_ T (g:=?_)
        cases hr
        refine ⟨.inr rfl,_,(ry T),?_⟩
        exact wk_ T [] rfl .nil
    · have T:=an h2 T
      refine wa_ T (g:=?_)
      by_cases h4 : v5 = 0
      · rw [if_pos h4] at hr
        cases hr
      · rw [if_neg h4] at hr
        have T:=an h4 T
        refine wa_ T (g:=?_)
        cases hr
        refine ⟨.inr rfl,_,(ry T),?_⟩
        exact wk_ T [] rfl .nil
  rfl

end Go.Rex

namespace Go.Rex
open Go.Proofs
open Go Go.Rex Go.RowKit
set_option maxRecDepth 100000
set_option maxHeartbeats 200000
def y41:=an @ag3 <| an @ag50 <| an @cs50 <| an @fd50_0 <| an @fd50_1 <| an @ok50 <| an @st50 <| @zc50
theorem ref05_share_spec {v1 : Int} {v2 : Int} {v3 : Int} {v4 : Int} {v5 : Int} (hr : ref05_share v1 v2 = some (v3,v4,v5)) : Spec (lim Tryz.prog) 75 [.v (.int .i64 v1),.v (.int .i64 v2)] ⟨[.tuple [.agg [.v (.int .i64 v3),.v (.int .i64 v4)],.v (.int .i64 v5)]],[]⟩:=by
  unfold ref05_share at hr
  have T:=y41
  apply Spec.fn Tryz.func75 rfl
  focus (simp [Tryz.f75]<;>exact rfl)
  focus
    refine wa_ T (g:=?_)
    rcases ifs hr with ⟨h1,hr⟩|⟨h1,hr⟩
    · have T:=an h1 T
      refine wa_ T (g:=?_)
      cases hr
      refine ⟨.inr rfl,_,(ry T),?_⟩
      exact wk_ T [] rfl .nil
    · have T:=an h1 T
      refine wa_ T (g:=?_)
      obtain ⟨⟨v6,v7⟩,h2,hr⟩:=bs hr
      try dsimp only at hr
      apply TO.cal (wn T) rfl goFn120 (base_Lowest_spec h2) rfl rfl rfl
      repeat exact sd T
      refine wA T (g:=?_)
      rcases ifs hr with ⟨h3,hr⟩|⟨h3,hr⟩
      · have T:=an h3 T
        refine wa_ T (g:=?_)
        cases hr
        refine ⟨.inr rfl,_,(ry T),?_⟩
        exact wk_ T [] rfl .nil
      · have T:=an h3 T
        refine wA T (g:=?_)
        rcases ifs hr with ⟨h4,hr⟩|⟨h4,hr⟩
        · have T:=an h4 T
          refine wa_ T (g:=?_)
          cases hr
          refine ⟨.inr rfl,_,(ry T),?_⟩
          exact wk_ T [] rfl .nil
        · have T:=an h4 T
          refine wA T (g:=?_)
          cases hr
          refine ⟨.inr rfl,_,(ry T),?_⟩
          exact wk_ T [] rfl .nil
  rfl

end Go.Rex

namespace Go.Rex
open Go.Proofs
open Go Go.Rex Go.RowKit
set_option maxRecDepth 100000
set_option maxHeartbeats 200000
def y42:=an @ag24 <| an @ag3 <| an @ag50 <| an @cs24 <| an @cs30 <| an @cs50 <| an @fd30_0 <| an @ok24 <| an @ok30 <| an @ok50 <| an @zc30 <| @zc50
theorem ref05_Definition_spec {v1 : Int} {v2 : (List Nat)} {v3 : Int} {v4 : Int} {v5 : Int} {v6 : Int} (hr : ref05_Definition v1 v2 v3 = some (v4,v5,v6)) : Spec (lim Tryz.prog) 31 [.agg [.v (.int .i64 v1),.list 1 (v2.map e_f)],.v (.int .i64 v3)] ⟨[.tuple [.agg [.v (.int .i64 v4),.v (.int .i64 v5)],.v (.int .i64 v6)]],[]⟩:=by
  unfold ref05_Definition at hr
  have T:=an y42 <| @e_f.eq_1
  apply Spec.fn Tryz.func31 rfl
  focus (simp [Tryz.f31]<;>exact rfl)
  focus
    refine wB T (g:=?_)
    obtain ⟨⟨v7,v8⟩,h1,hr⟩:=bs hr
    try dsimp only at hr
    apply TO.cal (wn T) rfl goFn22 (ref05_Plain_spec h1) rfl rfl rfl
    repeat exact sd T
    refine wa_ T (g:=?_)
    obtain ⟨⟨v9,v10,v11,v12⟩,h2,hr⟩:=bs hr
    try dsimp only at hr
    apply TO.cal (wn T) rfl goFn70 (ref05_parts_spec h2) rfl rfl rfl
    repeat exact sd T
    refine wA T (g:=?_)
    obtain ⟨⟨v13,v14⟩,h3,hr⟩:=bs hr
    try dsimp only at hr
    apply TD.cal (wn T) rfl goFn22 (ref05_Plain_spec h3) rfl rfl rfl
    repeat exact sd T
    refine wa_ T (g:=?_)
    obtain ⟨⟨v15,v16⟩,h4,hr⟩:=bs hr
    try dsimp only at hr
    apply TD.cal (wn T) rfl goFn59 (ref05_sum_spec h4) rfl rfl rfl
    repeat exact sd T
    refine wa_ T (g:=?_)
    obtain ⟨⟨v17,v18,v19⟩,h5,hr⟩:=bs hr
    try dsimp only at hr
    apply TD.cal (wn T) rfl goFn75 (ref05_share_spec h5) rfl rfl rfl
    repeat exact sd T
    refine wa_ T (g:=?_)
    cases hr
    refine ⟨.inr rfl,_,(ry T),?_⟩
    exact wr [] rfl .nil
  rfl

end Go.Rex

namespace Go.Rex
open Go.Proofs
open Go Go.Rex Go.RowKit
set_option maxRecDepth 100000
set_option maxHeartbeats 200000
def y43:=an @ag26 <| an @ag3 <| an @ag30 <| an @cs26 <| an @cs30 <| an @fd30_0 <| an @fd30_1 <| an @ok26 <| an @ok30 <| an @st30 <| @zc30
theorem ref05_DefinitionWithin_spec {v1 : Int} {v2 : (List Nat)} {v3 : Int} {v4 : Int} {v5 : Int} {v6 : Int} {v7 : Int} {v8 : Int} (hr : ref05_DefinitionWithin v1 v2 v3 v4 v5 = some (v6,v7,v8)) : Spec (lim Tryz.prog) 32 [.agg [.v (.int .i64 v1),.list 1 (v2.map e_f),.v (.int .i64 v3),.v (.int .i64 v4)],.v (.int .i64 v5)] ⟨[.tuple [.agg [.v (.int .i64 v6),.v (.int .i64 v7)],.v (.int .i64 v8)]],[]⟩:=by
  unfold ref05_DefinitionWithin at hr
  have T:=an y43 <| @e_f.eq_1
  apply Spec.fn Tryz.func32 rfl
  focus (simp [Tryz.f32]<;>exact rfl)
  focus
    refine wB T (g:=?_)
    obtain ⟨⟨v9,v10,v11,v12⟩,h1,hr⟩:=bs hr
    try dsimp only at hr
    apply TO.cal (wn T) rfl goFn70 (ref05_parts_spec h1) rfl rfl rfl
    repeat exact sd T
    refine wA T (g:=?_)
    rcases ifs hr with ⟨h2,hr⟩|⟨h2,hr⟩
    · have T:=an h2 T
      refine wa_ T (g:=?_)
      cases hr
      refine ⟨.inr rfl,_,(ry T),?_⟩
      exact wk_ T [] rfl .nil
    · have T:=an h2 T
      refine wA T (g:=?_)
      obtain ⟨v13,h3,hr⟩:=bs hr
      apply TD.cal (wn T) rfl goFn61 (base_Floor_spec h3) rfl rfl rfl
      repeat exact sd T
      refine wA T (g:=?_)
      obtain ⟨v14,h4,hr⟩:=bs hr
      apply TD.cal (wn T) rfl goFn62 (base_Ceil_spec h4) rfl rfl rfl
      repeat exact sd T
      refine wa_ T (g:=?_)
      cases hr
      refine ⟨.inr rfl,_,(ry T),?_⟩
      exact wk_ T [] rfl .nil
  rfl

end Go.Rex

namespace Go.Rex
open Go.Proofs
open Go Go.Rex Go.RowKit
set_option maxRecDepth 100000
set_option maxHeartbeats 200000
theorem base_Compare_spec {v1 : Int} {v2 : Int} {v3 : Int} {v4 : Int} {v5 : Int} (hr : base_Compare v1 v2 v3 v4 = some (v5)) : Spec (lim Tryz.prog) 33 [.v (.int .i64 v1),.v (.int .i64 v2),.v (.int .i64 v3),.v (.int .i64 v4)] ⟨[.v (.int .i64 v5)],[]⟩:=by
  unfold base_Compare at hr
  have T:=trivial
  apply Spec.fn Tryz.func33 rfl
  focus (simp [Tryz.f33]<;>exact rfl)
  focus
    refine wa_ T (g:=?_)
    obtain ⟨v15,h15,hr⟩:=bs hr
    refine TX.loopE (step:=base_Compare_l1) (x:=(v1,v2,v3,v4)) h15 (fun (v6,v7,v8,v9)=>⟨.v (.int .i64 v6) :: .v (.int .i64 v7) :: .v (.int .i64 v8) :: .v (.int .i64 v9) :: .junk :: .junk :: .junk :: .junk :: .junk :: .junk :: .junk :: .junk :: .junk :: .junk :: .junk :: .junk :: .junk :: .junk :: .junk :: .junk :: .junk :: .junk :: .junk :: .junk :: .junk :: .junk :: .junk :: .junk :: .junk :: .junk :: .junk :: .junk :: .junk :: .junk :: .junk :: .junk :: .junk :: .junk :: .junk :: .junk :: .junk :: .junk :: .junk :: .junk :: .junk :: .junk :: .junk :: [],[]⟩) (fun v12=>(.ret,⟨.junk :: .junk :: .junk :: .junk :: .junk :: .junk :: .junk :: .junk :: .v (.int .i64 v12) :: .junk :: .junk :: .junk :: .junk :: .junk :: .junk :: .junk :: .junk :: .junk :: .junk :: .junk :: .junk :: .junk :: .junk :: .junk :: .junk :: .junk :: .junk :: .junk :: .junk :: .junk :: .junk :: .junk :: .junk :: .junk :: .junk :: .junk :: .junk :: .junk :: .junk :: .junk :: .junk :: .junk :: .junk :: .junk :: .junk :: .junk :: .junk :: [],[]⟩)) ?_ ?_ ?_ ?_
    · rintro ⟨v6,v7,v8,v9⟩ v0 hr
      dsimp only [base_Compare_l1] at hr
      try dsimp only
      refine wa_ T (g:=?_)
      obtain ⟨v13,h8,hr⟩:=bs hr
      apply TO.cal (wn T) rfl goFn61 (base_Floor_spec h8) rfl rfl rfl
      repeat exact sd T
      refine wa_ T (g:=?_)
      obtain ⟨v14,h9,hr⟩:=bs hr
      apply TO.cal (wn T) rfl goFn61 (base_Floor_spec h9) rfl rfl rfl
      repeat exact sd T
      refine wa_ T (g:=?_)
      rcases ifs hr with ⟨h10,hr⟩|⟨h10,hr⟩
      · have T:=an h10 T
        refine wa_ T (g:=?_)
        cases hr
        refine ⟨rfl,?_⟩
        exact wk_ T [] rfl .nil
      · have T:=an h10 T
        refine wa_ T (g:=?_)
        rcases ifs hr with ⟨h11,hr⟩|⟨h11,hr⟩
        · have T:=an h11 T
          refine wa_ T (g:=?_)
          cases hr
          refine ⟨rfl,?_⟩
          exact wk_ T [] rfl .nil
        · have T:=an h11 T
          refine wa_ T (g:=?_)
          rcases ifs hr with ⟨h12,hr⟩|⟨h12,hr⟩
          · have T:=an h12 T
            refine wa_ T (g:=?_)
            rcases ifs hr with ⟨h13,hr⟩|⟨h13,hr⟩
            · have T:=an h13 T
              refine wa_ T (g:=?_)
              cases hr
              refine ⟨rfl,?_⟩
              exact wk_ T [] rfl .nil
            · have T:=an h13 T
              refine wa_ T (g:=?_)
              cases hr
              refine ⟨rfl,?_⟩
              exact wk_ T [] rfl .nil
          · have T:=an h12 T
            refine wa_ T (g:=?_)
            rcases ifs hr with ⟨h14,hr⟩|⟨h14,hr⟩
            · have T:=an h14 T
              refine wa_ T (g:=?_)
              cases hr
              refine ⟨rfl,?_⟩
              exact wk_ T [] rfl .nil
            · have T:=an h14 T
              refine wa_ T (g:=?_)
              cases hr
              refine ⟨rfl,?_⟩
              exact wk_ T [] rfl .nil
    · intro e h;cases h
    · try dsimp only
      refine wa_ T (g:=?_)
      cases hr
      refine ⟨.inr rfl,_,(ry T),?_⟩
      exact wr [] rfl .nil
    · try dsimp only
      exact wr [] rfl .nil
  rfl

end Go.Rex

namespace Go.Rex
open Go.Proofs
open Go Go.Rex Go.RowKit
set_option maxRecDepth 100000

end Go.Rex

namespace Go.Rex
open Go.Proofs
open Go Go.Rex Go.RowKit
set_option maxRecDepth 100000
set_option maxHeartbeats 4000000
def y44:=an @ag24 <| an @ag26 <| an @ag3 <| an @ag30 <| an @ag50 <| an @cs24 <| an @cs26 <| an @cs30 <| an @cs50 <| an @eqg30 <| an @eqg50 <| an @eqs30 <| an @eqs50 <| an @fd26_0 <| an @fd26_2 <| an @fd30_0 <| an @fd30_1 <| an @fd50_0 <| an @fd50_1 <| an @ok24 <| an @ok26 <| an @ok30 <| an @ok50 <| an @zc30 <| @zc50
theorem law05_FigureDefinitions_law {v1 : Int} {v2 : (List Nat)} {v3 : Int} {v4 : Int} {v5 : Int} (hr : law05_FigureDefinitions v1 v2 v3 v4 v5 = some true) {Fz : Nat → Prop} {h : List Blk} {vs : List Value} (hfz : FZ Fz h) (hargs : VLs Fz h noL [.agg [.v (.int .i64 v1), .list 1 (v2.map e_f), .v (.int .i64 v3), .v (.int .i64 v4)], .v (.int .i64 v5)] vs)
    {B lo : Nat} {D : Nat → Prop} {m : NMap} {w : World} {args' : List Value} (hrel : Rel B lo D m h w) (hlo : lo ≤ h.length) (hargs' : VRs D m vs args') : Calls Tryz.prog 6 ⟨args'⟩ w (fun e w'=>e = .returned (.bool true) ∧ Below w.heap.size w w'):=by
  unfold law05_FigureDefinitions at hr
  have T:=an y44 <| @e_f.eq_1
  refine law_tex follows awake_true Tryz.func6 rfl (tm0:=.agg [.v (.int .i64 v1),.list 1 (v2.map e_f),.v (.int .i64 v3),.v (.int .i64 v4)] :: .v (.int .i64 v5) :: .junk :: .junk :: .junk :: .junk :: .junk :: .junk :: .junk :: .junk :: .junk :: .junk :: .junk :: .junk :: .junk :: .junk :: .junk :: .junk :: .junk :: .junk :: .junk :: .junk :: .junk :: .junk :: .junk :: .junk :: .junk :: .junk :: .junk :: .junk :: .junk :: .junk :: .junk :: .junk :: .junk :: .junk :: .junk :: .junk :: .junk :: .junk :: .junk :: .junk :: .junk :: .junk :: .junk :: .junk :: .junk :: .junk :: .junk :: .junk :: .junk :: .junk :: .junk :: .junk :: .junk :: .junk :: .junk :: .junk :: .junk :: .junk :: .junk :: .junk :: .junk :: .junk :: .junk :: .junk :: .junk :: .junk :: .junk :: .junk :: .junk :: .junk :: .junk :: .junk :: .junk :: .junk :: .junk :: .junk :: .junk :: .junk :: .junk :: .junk :: .junk :: .junk :: .junk :: .junk :: .junk :: .junk :: .junk :: .junk :: .junk :: .junk :: .junk :: .junk :: .junk :: .junk :: .junk :: .junk :: .junk :: .junk :: .junk :: .junk :: .junk :: .junk :: .junk :: .junk :: .junk :: .junk :: .junk :: .junk :: .junk :: .junk :: .junk :: .junk :: .junk :: .junk :: []) (by simp [Tryz.f6]<;>exact rfl) ?_ hfz hargs hrel hlo hargs'
  refine wb_ T (g:=?_)
  apply TO.cal (wn T) rfl goFn12 Spec.awake rfl rfl rfl
  repeat exact sd T
  refine wa_ T (g:=?_)
  apply TO.pop1 (wn T) (pop_not rfl)
  repeat exact sd T
  refine wA T (g:=?_)
  obtain ⟨v7,h1,hr⟩:=bs hr
  apply TO.cal (wn T) rfl goFn13 (Spec.ov (law05_Few_spec h1) (by decide)) rfl rfl rfl
  repeat exact sd T
  refine wa_ T (g:=?_)
  apply TO.pop1 (wn T) (pop_not rfl)
  repeat exact sd T
  refine wa_ T (g:=?_)
  rcases ifs hr with ⟨h2,hr⟩|⟨h2,hr⟩
  · have T:=an h2 T
    refine wA T (g:=?_)
    obtain ⟨⟨v8,v9⟩,h3,hr⟩:=bs hr
    try dsimp only at hr
    apply TO.cal (wn T) rfl goFn15 (Spec.ov (base_CopyResponse_spec h3) (by decide)) rfl rfl rfl
    repeat exact sd T
    refine wa_ T (g:=?_)
    obtain ⟨⟨v10,v11,v12⟩,h4,hr⟩:=bs hr
    try dsimp only at hr
    apply TO.lok (wn T) rfl goFn29 (Spec.ov (figure_Definition_spec h4) (by decide)) (vw T) rfl rfl (by simp [clTB,cl,e_f,e_i,e_ii])
    repeat exact sd T
    refine wA T (g:=?_)
    obtain ⟨⟨v13,v14,v15,v16⟩,h5,hr⟩:=bs hr
    try dsimp only at hr
    apply TO.cal (wn T) rfl goFn17 (Spec.ov (ref05_Copy_spec h5) (by decide)) rfl rfl rfl
    repeat exact sd T
    refine wa_ T (g:=?_)
    obtain ⟨⟨v17,v18,v19⟩,h6,hr⟩:=bs hr
    try dsimp only at hr
    apply TO.lok (wn T) rfl goFn30 (Spec.ov (figure_DefinitionWithin_spec h6) (by decide)) (vw T) rfl rfl (by simp [clTB,cl,e_f,e_i,e_ii])
    repeat exact sd T
    refine wA T (g:=?_)
    obtain ⟨v20,h7,hr⟩:=bs hr
    apply TD.cal (wn T) rfl goFn18 (Spec.ov (ref05_ResponseErr_spec h7) (by decide)) rfl rfl rfl
    repeat exact sd T
    refine wA T (g:=?_)
    obtain ⟨v21,h8,hr⟩:=bs hr
    apply TD.cal (wn T) rfl goFn19 (Spec.ov (ref05_AskErr_spec h8) (by decide)) rfl rfl rfl
    repeat exact sd T
    refine wa_ T (g:=?_)
    obtain ⟨v22,h9,hr⟩:=bs hr
    apply TO.cal (wn T) rfl goFn27 (Spec.ov (ref05_TimeErr_spec h9) (by decide)) rfl rfl rfl
    repeat exact sd T
    refine wa_ T (g:=?_)
    rcases ifs hr with ⟨h10,hr⟩|⟨h10,hr⟩
    · have T:=an h10 T
      refine wa_ T (g:=?_)
      rcases ifs hr with ⟨h11,hr⟩|⟨h11,hr⟩
      · have T:=an h11 T
        refine wa_ T (g:=?_)
        rcases ifs hr with ⟨h12,hr⟩|⟨h12,hr⟩
        · have T:=an h12 T
          refine wa_ T (g:=?_)
          rcases ifs hr with ⟨h13,hr⟩|⟨h13,hr⟩
          · have T:=an h13 T
            refine wA T (g:=?_)
            obtain ⟨⟨v23,v24,v25⟩,h14,hr⟩:=bs hr
            try dsimp only at hr
            apply TO.cal (wn T) rfl goFn31 (Spec.ov (ref05_Definition_spec h14) (by decide)) rfl rfl rfl
            repeat exact sd T
            refine wA T (g:=?_)
            obtain ⟨⟨v26,v27,v28⟩,h15,hr⟩:=bs hr
            try dsimp only at hr
            apply TO.cal (wn T) rfl goFn32 (Spec.ov (ref05_DefinitionWithin_spec h15) (by decide)) rfl rfl rfl
            repeat exact sd T
            refine wa_ T (g:=?_)
            rcases ifs hr with ⟨h16,hr⟩|⟨h16,hr⟩
            · have T:=an h16 T
              refine wa_ T (g:=?_)
              exact lv T hr
            · have T:=an h16 T
              refine wA T (g:=?_)
              apply TO.pop1 (wn T) (pop_eqs2 (X:=⟨[.int .i64 (v10),.int .i64 (v11)]⟩) (Y:=⟨[.int .i64 (v23),.int .i64 (v24)]⟩) rfl rfl rfl rfl rfl rfl rfl eqg50 eqs50 rfl)
              repeat exact sd T
              refine wa_ T (g:=?_)
              rcases ifs hr with ⟨h17,hr⟩|⟨h17,hr⟩
              · have T:=an h17 T
                refine wa_ T (g:=?_)
                rcases ifs hr with ⟨h18,hr⟩|⟨h18,hr⟩
                · have T:=an h18 T
                  refine wa_ T (g:=?_)
                  exact lv T hr
                · have T:=an h18 T
                  refine wA T (g:=?_)
                  apply TO.pop1 (wn T) (pop_eqs2 (X:=⟨[.int .i64 (v17),.int .i64 (v18)]⟩) (Y:=⟨[.int .i64 (v26),.int .i64 (v27)]⟩) rfl rfl rfl rfl rfl rfl rfl eqg30 eqs30 rfl)
                  repeat exact sd T
                  refine wa_ T (g:=?_)
                  rcases ifs hr with ⟨h19,hr⟩|⟨h19,hr⟩
                  · have T:=an h19 T
                    refine wa_ T (g:=?_)
                    rcases ifs hr with ⟨h20,hr⟩|⟨h20,hr⟩
                    · have T:=an h20 T
                      refine wa_ T (g:=?_)
                      exact lv T hr
                    · have T:=an h20 T
                      refine wa_ T (g:=?_)
                      rcases ifs hr with ⟨h21,hr⟩|⟨h21,hr⟩
                      · have T:=an h21 T
                        refine wa_ T (g:=?_)
                        exact lv T hr
                      · have T:=an h21 T
                        refine wA T (g:=?_)
                        rcases ifs hr with ⟨h22,hr⟩|⟨h22,hr⟩
                        · have T:=an h22 T
                          refine wa_ T (g:=?_)
                          exact lv T hr
                        · have T:=an h22 T
                          refine wA T (g:=?_)
                          obtain ⟨v29,h23,hr⟩:=bs hr
                          apply TO.cal (wn T) rfl goFn33 (Spec.ov (base_Compare_spec h23) (by decide)) rfl rfl rfl
                          repeat exact sd T
                          refine wa_ T (g:=?_)
                          rcases ifs hr with ⟨h24,hr⟩|⟨h24,hr⟩
                          · have T:=an h24 T
                            refine wA T (g:=?_)
                            obtain ⟨v30,h25,hr⟩:=bs hr
                            apply TO.cal (wn T) rfl goFn33 (Spec.ov (base_Compare_spec h25) (by decide)) rfl rfl rfl
                            repeat exact sd T
                            refine wa_ T (g:=?_)
                            exact lv T hr
                          · have T:=an h24 T
                            refine wa_ T (g:=?_)
                            exact lv T hr
                  · have T:=an h19 T
                    refine wa_ T (g:=?_)
                    exact lv T hr
              · have T:=an h17 T
                refine wa_ T (g:=?_)
                exact lv T hr
          · have T:=an h13 T
            refine wa_ T (g:=?_)
            rcases ifs hr with ⟨h26,hr⟩|⟨h26,hr⟩
            · have T:=an h26 T
              refine wa_ T (g:=?_)
              exact lv T hr
            · have T:=an h26 T
              refine wA T (g:=?_)
              apply TO.pop1 (wn T) (pop_eqs2 (X:=⟨[.int .i64 (v10),.int .i64 (v11)]⟩) (Y:=⟨[.int .i64 (0),.int .i64 (0)]⟩) rfl rfl rfl rfl rfl rfl rfl eqg50 eqs50 rfl)
              repeat exact sd T
              refine wa_ T (g:=?_)
              rcases ifs hr with ⟨h27,hr⟩|⟨h27,hr⟩
              · have T:=an h27 T
                refine wa_ T (g:=?_)
                rcases ifs hr with ⟨h28,hr⟩|⟨h28,hr⟩
                · have T:=an h28 T
                  refine wa_ T (g:=?_)
                  exact lv T hr
                · have T:=an h28 T
                  refine wA T (g:=?_)
                  apply TO.pop1 (wn T) (pop_eqs2 (X:=⟨[.int .i64 (v17),.int .i64 (v18)]⟩) (Y:=⟨[.int .i64 (0),.int .i64 (0)]⟩) rfl rfl rfl rfl rfl rfl rfl eqg30 eqs30 rfl)
                  repeat exact sd T
                  refine wa_ T (g:=?_)
                  rcases ifs hr with ⟨h29,hr⟩|⟨h29,hr⟩
                  · have T:=an h29 T
                    refine wa_ T (g:=?_)
                    exact lv T hr
                  · have T:=an h29 T
                    refine wa_ T (g:=?_)
                    exact lv T hr
              · have T:=an h27 T
                refine wa_ T (g:=?_)
                exact lv T hr
        · have T:=an h12 T
          refine wa_ T (g:=?_)
          rcases ifs hr with ⟨h30,hr⟩|⟨h30,hr⟩
          · have T:=an h30 T
            refine wA T (g:=?_)
            obtain ⟨⟨v31,v32,v33⟩,h31,hr⟩:=bs hr
            try dsimp only at hr
            apply TO.cal (wn T) rfl goFn31 (Spec.ov (ref05_Definition_spec h31) (by decide)) rfl rfl rfl
            repeat exact sd T
            refine wa_ T (g:=?_)
            rcases ifs hr with ⟨h32,hr⟩|⟨h32,hr⟩
            · have T:=an h32 T
              refine wa_ T (g:=?_)
              exact lv T hr
            · have T:=an h32 T
              refine wA T (g:=?_)
              apply TO.pop1 (wn T) (pop_eqs2 (X:=⟨[.int .i64 (v10),.int .i64 (v11)]⟩) (Y:=⟨[.int .i64 (v31),.int .i64 (v32)]⟩) rfl rfl rfl rfl rfl rfl rfl eqg50 eqs50 rfl)
              repeat exact sd T
              refine wa_ T (g:=?_)
              rcases ifs hr with ⟨h33,hr⟩|⟨h33,hr⟩
              · have T:=an h33 T
                refine wa_ T (g:=?_)
                rcases ifs hr with ⟨h34,hr⟩|⟨h34,hr⟩
                · have T:=an h34 T
                  refine wa_ T (g:=?_)
                  exact lv T hr
                · have T:=an h34 T
                  refine wA T (g:=?_)
                  apply TO.pop1 (wn T) (pop_eqs2 (X:=⟨[.int .i64 (v17),.int .i64 (v18)]⟩) (Y:=⟨[.int .i64 (0),.int .i64 (0)]⟩) rfl rfl rfl rfl rfl rfl rfl eqg30 eqs30 rfl)
                  repeat exact sd T
                  refine wa_ T (g:=?_)
                  rcases ifs hr with ⟨h35,hr⟩|⟨h35,hr⟩
                  · have T:=an h35 T
                    refine wa_ T (g:=?_)
                    rcases ifs hr with ⟨h36,hr⟩|⟨h36,hr⟩
                    · have T:=an h36 T
                      refine wa_ T (g:=?_)
                      exact lv T hr
                    · have T:=an h36 T
                      refine wa_ T (g:=?_)
                      rcases ifs hr with ⟨h37,hr⟩|⟨h37,hr⟩
                      · have T:=an h37 T
                        refine wa_ T (g:=?_)
                        exact lv T hr
                      · have T:=an h37 T
                        refine wA T (g:=?_)
                        rcases ifs hr with ⟨h38,hr⟩|⟨h38,hr⟩
                        · have T:=an h38 T
                          refine wa_ T (g:=?_)
                          exact lv T hr
                        · have T:=an h38 T
                          refine wA T (g:=?_)
                          obtain ⟨v34,h39,hr⟩:=bs hr
                          apply TO.cal (wn T) rfl goFn33 (Spec.ov (base_Compare_spec h39) (by decide)) rfl rfl rfl
                          repeat exact sd T
                          refine wa_ T (g:=?_)
                          rcases ifs hr with ⟨h40,hr⟩|⟨h40,hr⟩
                          · have T:=an h40 T
                            refine wA T (g:=?_)
                            obtain ⟨v35,h41,hr⟩:=bs hr
                            apply TO.cal (wn T) rfl goFn33 (Spec.ov (base_Compare_spec h41) (by decide)) rfl rfl rfl
                            repeat exact sd T
                            refine wa_ T (g:=?_)
                            exact lv T hr
                          · have T:=an h40 T
                            refine wa_ T (g:=?_)
                            exact lv T hr
                  · have T:=an h35 T
                    refine wa_ T (g:=?_)
                    exact lv T hr
              · have T:=an h33 T
                refine wa_ T (g:=?_)
                exact lv T hr
          · have T:=an h30 T
            refine wa_ T (g:=?_)
            rcases ifs hr with ⟨h42,hr⟩|⟨h42,hr⟩
            · have T:=an h42 T
              refine wa_ T (g:=?_)
              exact lv T hr
            · have T:=an h42 T
              refine wA T (g:=?_)
              apply TO.pop1 (wn T) (pop_eqs2 (X:=⟨[.int .i64 (v10),.int .i64 (v11)]⟩) (Y:=⟨[.int .i64 (0),.int .i64 (0)]⟩) rfl rfl rfl rfl rfl rfl rfl eqg50 eqs50 rfl)
              repeat exact sd T
              refine wa_ T (g:=?_)
              rcases ifs hr with ⟨h43,hr⟩|⟨h43,hr⟩
              · have T:=an h43 T
                refine wa_ T (g:=?_)
                rcases ifs hr with ⟨h44,hr⟩|⟨h44,hr⟩
                · have T:=an h44 T
                  refine wa_ T (g:=?_)
                  exact lv T hr
                · have T:=an h44 T
                  refine wA T (g:=?_)
                  apply TO.pop1 (wn T) (pop_eqs2 (X:=⟨[.int .i64 (v17),.int .i64 (v18)]⟩) (Y:=⟨[.int .i64 (0),.int .i64 (0)]⟩) rfl rfl rfl rfl rfl rfl rfl eqg30 eqs30 rfl)
                  repeat exact sd T
                  refine wa_ T (g:=?_)
                  rcases ifs hr with ⟨h45,hr⟩|⟨h45,hr⟩
                  · have T:=an h45 T
                    refine wa_ T (g:=?_)
                    exact lv T hr
                  · have T:=an h45 T
                    refine wa_ T (g:=?_)
                    exact lv T hr
              · have T:=an h43 T
                refine wa_ T (g:=?_)
                exact lv T hr
      · have T:=an h11 T
        refine wa_ T (g:=?_)
        rcases ifs hr with ⟨h46,hr⟩|⟨h46,hr⟩
        · have T:=an h46 T
          refine wa_ T (g:=?_)
          rcases ifs hr with ⟨h47,hr⟩|⟨h47,hr⟩
          · have T:=an h47 T
            refine wA T (g:=?_)
            obtain ⟨⟨v36,v37,v38⟩,h48,hr⟩:=bs hr
            try dsimp only at hr
            apply TO.cal (wn T) rfl goFn32 (Spec.ov (ref05_DefinitionWithin_spec h48) (by decide)) rfl rfl rfl
            repeat exact sd T
            refine wa_ T (g:=?_)
            rcases ifs hr with ⟨h49,hr⟩|⟨h49,hr⟩
            · have T:=an h49 T
              refine wa_ T (g:=?_)
              exact lv T hr
            · have T:=an h49 T
              refine wA T (g:=?_)
              apply TO.pop1 (wn T) (pop_eqs2 (X:=⟨[.int .i64 (v10),.int .i64 (v11)]⟩) (Y:=⟨[.int .i64 (0),.int .i64 (0)]⟩) rfl rfl rfl rfl rfl rfl rfl eqg50 eqs50 rfl)
              repeat exact sd T
              refine wa_ T (g:=?_)
              rcases ifs hr with ⟨h50,hr⟩|⟨h50,hr⟩
              · have T:=an h50 T
                refine wa_ T (g:=?_)
                rcases ifs hr with ⟨h51,hr⟩|⟨h51,hr⟩
                · have T:=an h51 T
                  refine wa_ T (g:=?_)
                  exact lv T hr
                · have T:=an h51 T
                  refine wA T (g:=?_)
                  apply TO.pop1 (wn T) (pop_eqs2 (X:=⟨[.int .i64 (v17),.int .i64 (v18)]⟩) (Y:=⟨[.int .i64 (v36),.int .i64 (v37)]⟩) rfl rfl rfl rfl rfl rfl rfl eqg30 eqs30 rfl)
                  repeat exact sd T
                  refine wa_ T (g:=?_)
                  rcases ifs hr with ⟨h52,hr⟩|⟨h52,hr⟩
                  · have T:=an h52 T
                    refine wa_ T (g:=?_)
                    rcases ifs hr with ⟨h53,hr⟩|⟨h53,hr⟩
                    · have T:=an h53 T
                      refine wa_ T (g:=?_)
                      exact lv T hr
                    · have T:=an h53 T
                      refine wa_ T (g:=?_)
                      rcases ifs hr with ⟨h54,hr⟩|⟨h54,hr⟩
                      · have T:=an h54 T
                        refine wa_ T (g:=?_)
                        exact lv T hr
                      · have T:=an h54 T
                        refine wA T (g:=?_)
                        rcases ifs hr with ⟨h55,hr⟩|⟨h55,hr⟩
                        · have T:=an h55 T
                          refine wa_ T (g:=?_)
                          exact lv T hr
                        · have T:=an h55 T
                          refine wA T (g:=?_)
                          obtain ⟨v39,h56,hr⟩:=bs hr
                          apply TO.cal (wn T) rfl goFn33 (Spec.ov (base_Compare_spec h56) (by decide)) rfl rfl rfl
                          repeat exact sd T
                          refine wa_ T (g:=?_)
                          rcases ifs hr with ⟨h57,hr⟩|⟨h57,hr⟩
                          · have T:=an h57 T
                            refine wA T (g:=?_)
                            obtain ⟨v40,h58,hr⟩:=bs hr
                            apply TO.cal (wn T) rfl goFn33 (Spec.ov (base_Compare_spec h58) (by decide)) rfl rfl rfl
                            repeat exact sd T
                            refine wa_ T (g:=?_)
                            exact lv T hr
                          · have T:=an h57 T
                            refine wa_ T (g:=?_)
                            exact lv T hr
                  · have T:=an h52 T
                    refine wa_ T (g:=?_)
                    exact lv T hr
              · have T:=an h50 T
                refine wa_ T (g:=?_)
                exact lv T hr
          · have T:=an h47 T
            refine wa_ T (g:=?_)
            rcases ifs hr with ⟨h59,hr⟩|⟨h59,hr⟩
            · have T:=an h59 T
              refine wa_ T (g:=?_)
              exact lv T hr
            · have T:=an h59 T
              refine wA T (g:=?_)
              apply TO.pop1 (wn T) (pop_eqs2 (X:=⟨[.int .i64 (v10),.int .i64 (v11)]⟩) (Y:=⟨[.int .i64 (0),.int .i64 (0)]⟩) rfl rfl rfl rfl rfl rfl rfl eqg50 eqs50 rfl)
              repeat exact sd T
              refine wa_ T (g:=?_)
              rcases ifs hr with ⟨h60,hr⟩|⟨h60,hr⟩
              · have T:=an h60 T
                refine wa_ T (g:=?_)
                rcases ifs hr with ⟨h61,hr⟩|⟨h61,hr⟩
                · have T:=an h61 T
                  refine wa_ T (g:=?_)
                  exact lv T hr
                · have T:=an h61 T
                  refine wA T (g:=?_)
                  apply TO.pop1 (wn T) (pop_eqs2 (X:=⟨[.int .i64 (v17),.int .i64 (v18)]⟩) (Y:=⟨[.int .i64 (0),.int .i64 (0)]⟩) rfl rfl rfl rfl rfl rfl rfl eqg30 eqs30 rfl)
                  repeat exact sd T
                  refine wa_ T (g:=?_)
                  rcases ifs hr with ⟨h62,hr⟩|⟨h62,hr⟩
                  · have T:=an h62 T
                    refine wa_ T (g:=?_)
                    rcases ifs hr with ⟨h63,hr⟩|⟨h63,hr⟩
                    · have T:=an h63 T
                      refine wa_ T (g:=?_)
                      exact lv T hr
                    · have T:=an h63 T
                      refine wa_ T (g:=?_)
                      exact lv T hr
                  · have T:=an h62 T
                    refine wa_ T (g:=?_)
                    exact lv T hr
              · have T:=an h60 T
                refine wa_ T (g:=?_)
                exact lv T hr
        · have T:=an h46 T
          refine wa_ T (g:=?_)
          rcases ifs hr with ⟨h64,hr⟩|⟨h64,hr⟩
          · have T:=an h64 T
            refine wa_ T (g:=?_)
            exact lv T hr
          · have T:=an h64 T
            refine wA T (g:=?_)
            apply TO.pop1 (wn T) (pop_eqs2 (X:=⟨[.int .i64 (v10),.int .i64 (v11)]⟩) (Y:=⟨[.int .i64 (0),.int .i64 (0)]⟩) rfl rfl rfl rfl rfl rfl rfl eqg50 eqs50 rfl)
            repeat exact sd T
            refine wa_ T (g:=?_)
            rcases ifs hr with ⟨h65,hr⟩|⟨h65,hr⟩
            · have T:=an h65 T
              refine wa_ T (g:=?_)
              rcases ifs hr with ⟨h66,hr⟩|⟨h66,hr⟩
              · have T:=an h66 T
                refine wa_ T (g:=?_)
                exact lv T hr
              · have T:=an h66 T
                refine wA T (g:=?_)
                apply TO.pop1 (wn T) (pop_eqs2 (X:=⟨[.int .i64 (v17),.int .i64 (v18)]⟩) (Y:=⟨[.int .i64 (0),.int .i64 (0)]⟩) rfl rfl rfl rfl rfl rfl rfl eqg30 eqs30 rfl)
                repeat exact sd T
                refine wa_ T (g:=?_)
                rcases ifs hr with ⟨h67,hr⟩|⟨h67,hr⟩
                · have T:=an h67 T
                  refine wa_ T (g:=?_)
                  rcases ifs hr with ⟨h68,hr⟩|⟨h68,hr⟩
                  · have T:=an h68 T
                    refine wa_ T (g:=?_)
                    exact lv T hr
                  · have T:=an h68 T
                    refine wa_ T (g:=?_)
                    rcases ifs hr with ⟨h69,hr⟩|⟨h69,hr⟩
                    · have T:=an h69 T
                      refine wa_ T (g:=?_)
                      exact lv T hr
                    · have T:=an h69 T
                      refine wA T (g:=?_)
                      rcases ifs hr with ⟨h70,hr⟩|⟨h70,hr⟩
                      · have T:=an h70 T
                        refine wa_ T (g:=?_)
                        exact lv T hr
                      · have T:=an h70 T
                        refine wA T (g:=?_)
                        obtain ⟨v41,h71,hr⟩:=bs hr
                        apply TO.cal (wn T) rfl goFn33 (Spec.ov (base_Compare_spec h71) (by decide)) rfl rfl rfl
                        repeat exact sd T
                        refine wa_ T (g:=?_)
                        rcases ifs hr with ⟨h72,hr⟩|⟨h72,hr⟩
                        · have T:=an h72 T
                          refine wA T (g:=?_)
                          obtain ⟨v42,h73,hr⟩:=bs hr
                          apply TO.cal (wn T) rfl goFn33 (Spec.ov (base_Compare_spec h73) (by decide)) rfl rfl rfl
                          repeat exact sd T
                          refine wa_ T (g:=?_)
                          exact lv T hr
                        · have T:=an h72 T
                          refine wa_ T (g:=?_)
                          exact lv T hr
                · have T:=an h67 T
                  refine wa_ T (g:=?_)
                  exact lv T hr
            · have T:=an h65 T
              refine wa_ T (g:=?_)
              exact lv T hr
    · have T:=an h10 T
      refine wa_ T (g:=?_)
      rcases ifs hr with ⟨h74,hr⟩|⟨h74,hr⟩
      · have T:=an h74 T
        refine wA T (g:=?_)
        obtain ⟨⟨v43,v44,v45⟩,h75,hr⟩:=bs hr
        try dsimp only at hr
        apply TO.cal (wn T) rfl goFn31 (Spec.ov (ref05_Definition_spec h75) (by decide)) rfl rfl rfl
        repeat exact sd T
        refine wa_ T (g:=?_)
        rcases ifs hr with ⟨h76,hr⟩|⟨h76,hr⟩
        · have T:=an h76 T
          refine wA T (g:=?_)
          obtain ⟨⟨v46,v47,v48⟩,h77,hr⟩:=bs hr
          try dsimp only at hr
          apply TO.cal (wn T) rfl goFn32 (Spec.ov (ref05_DefinitionWithin_spec h77) (by decide)) rfl rfl rfl
          repeat exact sd T
          refine wa_ T (g:=?_)
          rcases ifs hr with ⟨h78,hr⟩|⟨h78,hr⟩
          · have T:=an h78 T
            refine wa_ T (g:=?_)
            exact lv T hr
          · have T:=an h78 T
            refine wA T (g:=?_)
            apply TO.pop1 (wn T) (pop_eqs2 (X:=⟨[.int .i64 (v10),.int .i64 (v11)]⟩) (Y:=⟨[.int .i64 (v43),.int .i64 (v44)]⟩) rfl rfl rfl rfl rfl rfl rfl eqg50 eqs50 rfl)
            repeat exact sd T
            refine wa_ T (g:=?_)
            rcases ifs hr with ⟨h79,hr⟩|⟨h79,hr⟩
            · have T:=an h79 T
              refine wa_ T (g:=?_)
              rcases ifs hr with ⟨h80,hr⟩|⟨h80,hr⟩
              · have T:=an h80 T
                refine wa_ T (g:=?_)
                exact lv T hr
              · have T:=an h80 T
                refine wA T (g:=?_)
                apply TO.pop1 (wn T) (pop_eqs2 (X:=⟨[.int .i64 (v17),.int .i64 (v18)]⟩) (Y:=⟨[.int .i64 (v46),.int .i64 (v47)]⟩) rfl rfl rfl rfl rfl rfl rfl eqg30 eqs30 rfl)
                repeat exact sd T
                refine wa_ T (g:=?_)
                rcases ifs hr with ⟨h81,hr⟩|⟨h81,hr⟩
                · have T:=an h81 T
                  refine wa_ T (g:=?_)
                  rcases ifs hr with ⟨h82,hr⟩|⟨h82,hr⟩
                  · have T:=an h82 T
                    refine wa_ T (g:=?_)
                    exact lv T hr
                  · have T:=an h82 T
                    refine wa_ T (g:=?_)
                    rcases ifs hr with ⟨h83,hr⟩|⟨h83,hr⟩
                    · have T:=an h83 T
                      refine wa_ T (g:=?_)
                      exact lv T hr
                    · have T:=an h83 T
                      refine wA T (g:=?_)
                      rcases ifs hr with ⟨h84,hr⟩|⟨h84,hr⟩
                      · have T:=an h84 T
                        refine wa_ T (g:=?_)
                        exact lv T hr
                      · have T:=an h84 T
                        refine wA T (g:=?_)
                        obtain ⟨v49,h85,hr⟩:=bs hr
                        apply TO.cal (wn T) rfl goFn33 (Spec.ov (base_Compare_spec h85) (by decide)) rfl rfl rfl
                        repeat exact sd T
                        refine wa_ T (g:=?_)
                        rcases ifs hr with ⟨h86,hr⟩|⟨h86,hr⟩
                        · have T:=an h86 T
                          refine wA T (g:=?_)
                          obtain ⟨v50,h87,hr⟩:=bs hr
                          apply TO.cal (wn T) rfl goFn33 (Spec.ov (base_Compare_spec h87) (by decide)) rfl rfl rfl
                          repeat exact sd T
                          refine wa_ T (g:=?_)
                          exact lv T hr
                        · have T:=an h86 T
                          refine wa_ T (g:=?_)
                          exact lv T hr
                · have T:=an h81 T
                  refine wa_ T (g:=?_)
                  exact lv T hr
            · have T:=an h79 T
              refine wa_ T (g:=?_)
              exact lv T hr
        · have T:=an h76 T
          refine wa_ T (g:=?_)
          rcases ifs hr with ⟨h88,hr⟩|⟨h88,hr⟩
          · have T:=an h88 T
            refine wa_ T (g:=?_)
            exact lv T hr
          · have T:=an h88 T
            refine wA T (g:=?_)
            apply TO.pop1 (wn T) (pop_eqs2 (X:=⟨[.int .i64 (v10),.int .i64 (v11)]⟩) (Y:=⟨[.int .i64 (v43),.int .i64 (v44)]⟩) rfl rfl rfl rfl rfl rfl rfl eqg50 eqs50 rfl)
            repeat exact sd T
            refine wa_ T (g:=?_)
            rcases ifs hr with ⟨h89,hr⟩|⟨h89,hr⟩
            · have T:=an h89 T
              refine wa_ T (g:=?_)
              rcases ifs hr with ⟨h90,hr⟩|⟨h90,hr⟩
              · have T:=an h90 T
                refine wa_ T (g:=?_)
                exact lv T hr
              · have T:=an h90 T
                refine wA T (g:=?_)
                apply TO.pop1 (wn T) (pop_eqs2 (X:=⟨[.int .i64 (v17),.int .i64 (v18)]⟩) (Y:=⟨[.int .i64 (0),.int .i64 (0)]⟩) rfl rfl rfl rfl rfl rfl rfl eqg30 eqs30 rfl)
                repeat exact sd T
                refine wa_ T (g:=?_)
                rcases ifs hr with ⟨h91,hr⟩|⟨h91,hr⟩
                · have T:=an h91 T
                  refine wa_ T (g:=?_)
                  rcases ifs hr with ⟨h92,hr⟩|⟨h92,hr⟩
                  · have T:=an h92 T
                    refine wa_ T (g:=?_)
                    exact lv T hr
                  · have T:=an h92 T
                    refine wa_ T (g:=?_)
                    rcases ifs hr with ⟨h93,hr⟩|⟨h93,hr⟩
                    · have T:=an h93 T
                      refine wa_ T (g:=?_)
                      exact lv T hr
                    · have T:=an h93 T
                      refine wA T (g:=?_)
                      rcases ifs hr with ⟨h94,hr⟩|⟨h94,hr⟩
                      · have T:=an h94 T
                        refine wa_ T (g:=?_)
                        exact lv T hr
                      · have T:=an h94 T
                        refine wA T (g:=?_)
                        obtain ⟨v51,h95,hr⟩:=bs hr
                        apply TO.cal (wn T) rfl goFn33 (Spec.ov (base_Compare_spec h95) (by decide)) rfl rfl rfl
                        repeat exact sd T
                        refine wa_ T (g:=?_)
                        rcases ifs hr with ⟨h96,hr⟩|⟨h96,hr⟩
                        · have T:=an h96 T
                          refine wA T (g:=?_)
                          obtain ⟨v52,h97,hr⟩:=bs hr
                          apply TO.cal (wn T) rfl goFn33 (Spec.ov (base_Compare_spec h97) (by decide)) rfl rfl rfl
                          repeat exact sd T
                          refine wa_ T (g:=?_)
                          exact lv T hr
                        · have T:=an h96 T
                          refine wa_ T (g:=?_)
                          exact lv T hr
                · have T:=an h91 T
                  refine wa_ T (g:=?_)
                  exact lv T hr
            · have T:=an h89 T
              refine wa_ T (g:=?_)
              exact lv T hr
      · have T:=an h74 T
        refine wa_ T (g:=?_)
        rcases ifs hr with ⟨h98,hr⟩|⟨h98,hr⟩
        · have T:=an h98 T
          refine wA T (g:=?_)
          obtain ⟨⟨v53,v54,v55⟩,h99,hr⟩:=bs hr
          try dsimp only at hr
          apply TO.cal (wn T) rfl goFn32 (Spec.ov (ref05_DefinitionWithin_spec h99) (by decide)) rfl rfl rfl
          repeat exact sd T
          refine wa_ T (g:=?_)
          rcases ifs hr with ⟨h100,hr⟩|⟨h100,hr⟩
          · have T:=an h100 T
            refine wa_ T (g:=?_)
            exact lv T hr
          · have T:=an h100 T
            refine wA T (g:=?_)
            apply TO.pop1 (wn T) (pop_eqs2 (X:=⟨[.int .i64 (v10),.int .i64 (v11)]⟩) (Y:=⟨[.int .i64 (0),.int .i64 (0)]⟩) rfl rfl rfl rfl rfl rfl rfl eqg50 eqs50 rfl)
            repeat exact sd T
            refine wa_ T (g:=?_)
            rcases ifs hr with ⟨h101,hr⟩|⟨h101,hr⟩
            · have T:=an h101 T
              refine wa_ T (g:=?_)
              rcases ifs hr with ⟨h102,hr⟩|⟨h102,hr⟩
              · have T:=an h102 T
                refine wa_ T (g:=?_)
                exact lv T hr
              · have T:=an h102 T
                refine wA T (g:=?_)
                apply TO.pop1 (wn T) (pop_eqs2 (X:=⟨[.int .i64 (v17),.int .i64 (v18)]⟩) (Y:=⟨[.int .i64 (v53),.int .i64 (v54)]⟩) rfl rfl rfl rfl rfl rfl rfl eqg30 eqs30 rfl)
                repeat exact sd T
                refine wa_ T (g:=?_)
                rcases ifs hr with ⟨h103,hr⟩|⟨h103,hr⟩
                · have T:=an h103 T
                  refine wa_ T (g:=?_)
                  rcases ifs hr with ⟨h104,hr⟩|⟨h104,hr⟩
                  · have T:=an h104 T
                    refine wa_ T (g:=?_)
                    exact lv T hr
                  · have T:=an h104 T
                    refine wa_ T (g:=?_)
                    rcases ifs hr with ⟨h105,hr⟩|⟨h105,hr⟩
                    · have T:=an h105 T
                      refine wa_ T (g:=?_)
                      exact lv T hr
                    · have T:=an h105 T
                      refine wA T (g:=?_)
                      rcases ifs hr with ⟨h106,hr⟩|⟨h106,hr⟩
                      · have T:=an h106 T
                        refine wa_ T (g:=?_)
                        exact lv T hr
                      · have T:=an h106 T
                        refine wA T (g:=?_)
                        obtain ⟨v56,h107,hr⟩:=bs hr
                        apply TO.cal (wn T) rfl goFn33 (Spec.ov (base_Compare_spec h107) (by decide)) rfl rfl rfl
                        repeat exact sd T
                        refine wa_ T (g:=?_)
                        rcases ifs hr with ⟨h108,hr⟩|⟨h108,hr⟩
                        · have T:=an h108 T
                          refine wA T (g:=?_)
                          obtain ⟨v57,h109,hr⟩:=bs hr
                          apply TO.cal (wn T) rfl goFn33 (Spec.ov (base_Compare_spec h109) (by decide)) rfl rfl rfl
                          repeat exact sd T
                          refine wa_ T (g:=?_)
                          exact lv T hr
                        · have T:=an h108 T
                          refine wa_ T (g:=?_)
                          exact lv T hr
                · have T:=an h103 T
                  refine wa_ T (g:=?_)
                  exact lv T hr
            · have T:=an h101 T
              refine wa_ T (g:=?_)
              exact lv T hr
        · have T:=an h98 T
          refine wa_ T (g:=?_)
          rcases ifs hr with ⟨h110,hr⟩|⟨h110,hr⟩
          · have T:=an h110 T
            refine wa_ T (g:=?_)
            exact lv T hr
          · have T:=an h110 T
            refine wA T (g:=?_)
            apply TO.pop1 (wn T) (pop_eqs2 (X:=⟨[.int .i64 (v10),.int .i64 (v11)]⟩) (Y:=⟨[.int .i64 (0),.int .i64 (0)]⟩) rfl rfl rfl rfl rfl rfl rfl eqg50 eqs50 rfl)
            repeat exact sd T
            refine wa_ T (g:=?_)
            rcases ifs hr with ⟨h111,hr⟩|⟨h111,hr⟩
            · have T:=an h111 T
              refine wa_ T (g:=?_)
              rcases ifs hr with ⟨h112,hr⟩|⟨h112,hr⟩
              · have T:=an h112 T
                refine wa_ T (g:=?_)
                exact lv T hr
              · have T:=an h112 T
                refine wA T (g:=?_)
                apply TO.pop1 (wn T) (pop_eqs2 (X:=⟨[.int .i64 (v17),.int .i64 (v18)]⟩) (Y:=⟨[.int .i64 (0),.int .i64 (0)]⟩) rfl rfl rfl rfl rfl rfl rfl eqg30 eqs30 rfl)
                repeat exact sd T
                refine wa_ T (g:=?_)
                rcases ifs hr with ⟨h113,hr⟩|⟨h113,hr⟩
                · have T:=an h113 T
                  refine wa_ T (g:=?_)
                  rcases ifs hr with ⟨h114,hr⟩|⟨h114,hr⟩
                  · have T:=an h114 T
                    refine wa_ T (g:=?_)
                    exact lv T hr
                  · have T:=an h114 T
                    refine wa_ T (g:=?_)
                    rcases ifs hr with ⟨h115,hr⟩|⟨h115,hr⟩
                    · have T:=an h115 T
                      refine wa_ T (g:=?_)
                      exact lv T hr
                    · have T:=an h115 T
                      refine wA T (g:=?_)
                      rcases ifs hr with ⟨h116,hr⟩|⟨h116,hr⟩
                      · have T:=an h116 T
                        refine wa_ T (g:=?_)
                        exact lv T hr
                      · have T:=an h116 T
                        refine wA T (g:=?_)
                        obtain ⟨v58,h117,hr⟩:=bs hr
                        apply TO.cal (wn T) rfl goFn33 (Spec.ov (base_Compare_spec h117) (by decide)) rfl rfl rfl
                        repeat exact sd T
                        refine wa_ T (g:=?_)
                        rcases ifs hr with ⟨h118,hr⟩|⟨h118,hr⟩
                        · have T:=an h118 T
                          refine wA T (g:=?_)
                          obtain ⟨v59,h119,hr⟩:=bs hr
                          apply TO.cal (wn T) rfl goFn33 (Spec.ov (base_Compare_spec h119) (by decide)) rfl rfl rfl
                          repeat exact sd T
                          refine wa_ T (g:=?_)
                          exact lv T hr
                        · have T:=an h118 T
                          refine wa_ T (g:=?_)
                          exact lv T hr
                · have T:=an h113 T
                  refine wa_ T (g:=?_)
                  exact lv T hr
            · have T:=an h111 T
              refine wa_ T (g:=?_)
              exact lv T hr
  · have T:=an h2 T
    refine wa_ T (g:=?_)
    exact lv T hr

end Go.Rex
