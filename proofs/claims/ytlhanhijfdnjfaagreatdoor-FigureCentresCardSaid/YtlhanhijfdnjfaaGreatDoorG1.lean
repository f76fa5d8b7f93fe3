/- Proofs that the program's functions do what these plain functions say. -/
import Derived.Test.YtlhanhijfdnjfaaGreatDoorGB
import Derived.Test.YtlhanhijfdnjfaaGreatDoorS
import Derived.Test.YtlhanhijfdnjfaaGreatDoorCZ
set_option linter.unusedSimpArgs false
set_option linter.unusedVariables false
set_option linter.defProp false
namespace Go.Rex
open Go.Proofs
open Go Go.Rex Go.RowKit
set_option maxRecDepth 100000
set_option maxHeartbeats 200000
def y1:=an @ag22 <| an @fd24_1 <| @so22
theorem law05_Few_spec {v1 : Int} {v2 : (List Nat)} {v3 : Bool} (hr : law05_Few v1 v2 = some (v3)) : Spec (lim Tryz.prog) 12 [.agg [.v (.int .i64 v1),.list 1 (v2.map e_f)]] ⟨[.v (.bool v3)],[]⟩:=by
  unfold law05_Few at hr
  have T:=an y1 <| @e_f.eq_1
  apply Spec.fn Tryz.func12 rfl
  focus (simp [Tryz.f12]<;>exact rfl)
  focus
    refine wD T (g:=?_)
    rcases ifs hr with ⟨h1,hr⟩|⟨h1,hr⟩
    · have T:=an h1 T
      refine wa_ T (g:=?_)
      cases hr
      refine ⟨.inr rfl,_,(ry T),?_⟩
      exact wk_ T [] rfl .nil
    · have T:=an h1 T
      refine wC T (g:=?_)
      rcases ifs hr with ⟨h2,hr⟩|⟨h2,hr⟩
      · have T:=an h2 T
        refine wC T (g:=?_)
        cases hr
        refine ⟨.inr rfl,_,(ry T),?_⟩
        exact wk_ T [] rfl .nil
      · have T:=an h2 T
        refine wa_ T (g:=?_)
        cases hr
        refine ⟨.inr rfl,_,(ry T),?_⟩
        exact wk_ T [] rfl .nil
  rfl

end Go.Rex

namespace Go.Rex
open Go.Proofs
open Go Go.Rex Go.RowKit
set_option maxRecDepth 100000
set_option maxHeartbeats 200000
def y2:=an @ag22 <| an @ag24 <| an @ag3 <| an @by99 <| an @cs24 <| an @cs99 <| an @fd24_0 <| an @fd24_1 <| an @ni22 <| an @ok24 <| an @so22 <| an @st24 <| an @zc24 <| @zc99
theorem base_CopyResponse_spec {v1 : Int} {v2 : (List Nat)} {v3 : Int} {v4 : (List Nat)} (hr : base_CopyResponse v1 v2 = some (v3,v4)) : Spec (lim Tryz.prog) 14 [.agg [.v (.int .i64 v1),.list 1 (v2.map e_f)]] ⟨[.agg [.v (.int .i64 v3),.lsl 0 0 v4.length]],[.rows 1 (v4.map e_f)]⟩:=by
  unfold base_CopyResponse at hr
  have T:=an y2 <| @e_f.eq_1
  apply Spec.fn Tryz.func14 rfl
  focus (simp [Tryz.f14]<;>exact rfl)
  focus
    repeat (first|(with_reducible first|refine mv ?_|refine m12 rfl ?_|refine TO.nil ?_)|((with_reducible first|apply TO.bf|apply TO.al);(repeat (focus (show _ = _;first|exact k1 rfl|exact k2 rfl|(simp only [zz,y2,e_f,Nat.reduceAdd,Nat.reduceMul,Nat.reduceLeDiff,Nat.reduceEqDiff]<;>exact rfl)|exact rfl)));(with_reducible apply TO.here))|((with_reducible apply TX.region);(focus (simp only [zl]<;>exact rfl));(focus rfl);(try dsimp only))|with_reducible refine TD.nil ?_|((with_reducible first|apply TD.fa|apply TD.ld );(repeat (focus (show _ = _;first|exact k1 rfl|exact k2 rfl|(simp only [zz,y2,e_f,Nat.reduceAdd,Nat.reduceMul,Nat.reduceLeDiff,Nat.reduceEqDiff,tfieldAddr,tload,rowOf,partT,List.getElem?_map]<;>exact rfl)|exact rfl)));(with_reducible refine TD.here ?_))|((with_reducible apply TD.ldF);(focus decide +kernel);(repeat (focus (show _ = _;first|exact k1 rfl|exact k2 rfl|(simp only [zz,y2,e_f,Nat.reduceAdd,Nat.reduceMul,Nat.reduceLeDiff,Nat.reduceEqDiff,tfieldAddr,tload,rowOf,partT,List.getElem?_map]<;>exact rfl)|exact rfl)));(with_reducible refine TD.here ?_))|((with_reducible apply TX.drawn);(focus decide +kernel);(focus (simp only [zl]<;>exact rfl));(focus exact rfl);(try dsimp only))|fail)
    apply TD.bl e_f ([] : List Nat) (wn T) rfl (by simp only [zz,y2,e_f,Nat.reduceAdd,Nat.reduceMul,Nat.reduceLeDiff,Nat.reduceEqDiff,tslice,tparts];exact rfl) rfl rfl
    repeat exact sd T
    repeat (first|(with_reducible first|refine mv ?_|refine m12 rfl ?_|refine TD.nil ?_)|((with_reducible first|apply TD.fa|apply TD.ld );(repeat (focus (show _ = _;first|exact k1 rfl|exact k2 rfl|(simp only [zz,y2,e_f,Nat.reduceAdd,Nat.reduceMul,Nat.reduceLeDiff,Nat.reduceEqDiff,tfieldAddr,tload,rowOf,partT,List.getElem?_map]<;>exact rfl)|exact rfl)));(with_reducible refine TD.here ?_))|((with_reducible apply TD.ldF);(focus decide +kernel);(repeat (focus (show _ = _;first|exact k1 rfl|exact k2 rfl|(simp only [zz,y2,e_f,Nat.reduceAdd,Nat.reduceMul,Nat.reduceLeDiff,Nat.reduceEqDiff,tfieldAddr,tload,rowOf,partT,List.getElem?_map]<;>exact rfl)|exact rfl)));(with_reducible refine TD.here ?_))|((with_reducible apply TX.drawn);(focus decide +kernel);(focus (simp only [zl]<;>exact rfl));(focus exact rfl);(try dsimp only))|fail)
    obtain ⟨v5,h1,hr⟩:=bs hr
    apply TD.apf (f:=e_f) (xs:=([] : List Nat)) (ys:=v2) (wn T) rfl rfl (by first|rfl|simp only [List.length_set]) rfl rfl so22 ni22 zc99 rfl (by rw [by99];exact h1) (fun _=>⟨rfl,rfl,rfl⟩) rfl
    repeat exact sd T
    refine wa_ T (g:=?_)
    cases hr
    refine ⟨.inr rfl,_,(ry T),?_⟩
    exact wr [some 1] rfl (.rows .nil rfl rfl)
  rfl

end Go.Rex

namespace Go.Rex
open Go.Proofs
open Go Go.Rex Go.RowKit
set_option maxRecDepth 100000
set_option maxHeartbeats 200000
def y3:=an @ag24 <| an @ag26 <| an @cs24 <| an @cs26 <| an @fd26_0 <| an @ok24 <| an @ok26 <| @zc26
theorem ref05_Copy_spec {v1 : Int} {v2 : (List Nat)} {v3 : Int} {v4 : Int} {v5 : Int} {v6 : (List Nat)} {v7 : Int} {v8 : Int} (hr : ref05_Copy v1 v2 v3 v4 = some (v5,v6,v7,v8)) : Spec (lim Tryz.prog) 16 [.agg [.v (.int .i64 v1),.list 1 (v2.map e_f),.v (.int .i64 v3),.v (.int .i64 v4)]] ⟨[.agg [.v (.int .i64 v5),.lsl 0 0 v6.length,.v (.int .i64 v7),.v (.int .i64 v8)]],[.rows 1 (v6.map e_f)]⟩:=by
  unfold ref05_Copy at hr
  have T:=an y3 <| @e_f.eq_1
  apply Spec.fn Tryz.func16 rfl
  focus (simp [Tryz.f16]<;>exact rfl)
  focus
    repeat (first|(with_reducible first|refine mv ?_|refine m12 rfl ?_|refine TO.nil ?_)|((with_reducible first|apply TO.bx (dst:=some 1)|apply TO.al|apply TO.fa|apply TO.ld);(repeat (focus (show _ = _;first|exact k1 rfl|exact k2 rfl|(simp only [zz,y3,e_f,Nat.reduceAdd,Nat.reduceMul,Nat.reduceLeDiff,Nat.reduceEqDiff,tfieldAddr,tload,rowOf,partT,List.getElem?_map]<;>exact rfl)|exact rfl)));(with_reducible apply TO.here))|((with_reducible apply TX.region);(focus (simp only [zl]<;>exact rfl));(focus rfl);(try dsimp only))|fail)
    obtain ⟨⟨v9,v10⟩,h1,hr⟩:=bs hr
    try dsimp only at hr
    apply TO.cal (wn T) rfl goFn14 (base_CopyResponse_spec h1) rfl rfl rfl
    repeat exact sd T
    refine wA T (g:=?_)
    cases hr
    refine ⟨.inr rfl,_,(ry T),?_⟩
    exact wr [some 2] rfl (.rows .nil rfl rfl)
  rfl

end Go.Rex

namespace Go.Rex
open Go.Proofs
open Go Go.Rex Go.RowKit
set_option maxRecDepth 100000
set_option maxHeartbeats 200000
theorem figure_refuse_spec {v1 : Bool} {v2 : Int} {v3 : Int} (hr : figure_refuse v1 v2 = some (v3)) : Spec (lim Tryz.prog) 59 [.v (.bool v1),.v (.int .i64 v2)] ⟨[.v (.int .i64 v3)],[]⟩:=by
  unfold figure_refuse at hr
  have T:=trivial
  apply Spec.fn Tryz.func59 rfl
  focus (simp [Tryz.f59]<;>exact rfl)
  focus
    refine wa_ T (g:=?_)
    rcases ifs hr with ⟨h1,hr⟩|⟨h1,hr⟩
    · have T:=an h1 T
      refine wa_ T (g:=?_)
      cases hr
      refine ⟨.inr rfl,_,(ry T),?_⟩
      exact wk_ T [] rfl .nil
    · have T:=an h1 T
      refine wa_ T (g:=?_)
      cases hr
      refine ⟨.inr rfl,_,(ry T),?_⟩
      exact wk_ T [] rfl .nil
  rfl

end Go.Rex

namespace Go.Rex
open Go.Proofs
open Go Go.Rex Go.RowKit
set_option maxRecDepth 100000
set_option maxHeartbeats 200000
theorem figure_within_spec {v1 : Int} {v2 : Int} {v3 : Int} {v4 : Int} (hr : figure_within v1 v2 v3 = some (v4)) : Spec (lim Tryz.prog) 61 [.v (.int .i64 v1),.v (.int .i64 v2),.v (.int .i64 v3)] ⟨[.v (.int .i64 v4)],[]⟩:=by
  unfold figure_within at hr
  have T:=trivial
  apply Spec.fn Tryz.func61 rfl
  focus (simp [Tryz.f61]<;>exact rfl)
  focus
    refine wa_ T (g:=?_)
    rcases ifs hr with ⟨h1,hr⟩|⟨h1,hr⟩
    · have T:=an h1 T
      refine wa_ T (g:=?_)
      obtain ⟨v5,h2,hr⟩:=bs hr
      apply TO.cal (wn T) rfl goFn59 (figure_refuse_spec h2) rfl rfl rfl
      repeat exact sd T
      refine wa_ T (g:=?_)
      cases hr
      refine ⟨.inr rfl,_,(ry T),?_⟩
      exact wk_ T [] rfl .nil
    · have T:=an h1 T
      refine wa_ T (g:=?_)
      obtain ⟨v6,h3,hr⟩:=bs hr
      apply TO.cal (wn T) rfl goFn59 (figure_refuse_spec h3) rfl rfl rfl
      repeat exact sd T
      refine wa_ T (g:=?_)
      cases hr
      refine ⟨.inr rfl,_,(ry T),?_⟩
      exact wk_ T [] rfl .nil
  rfl

end Go.Rex

namespace Go.Rex
open Go.Proofs
open Go Go.Rex Go.RowKit
set_option maxRecDepth 100000
set_option maxHeartbeats 200000
theorem figure_rateError_spec {v1 : Int} {v2 : Int} (hr : figure_rateError v1 = some (v2)) : Spec (lim Tryz.prog) 58 [.v (.int .i64 v1)] ⟨[.v (.int .i64 v2)],[]⟩:=by
  unfold figure_rateError at hr
  have T:=trivial
  apply Spec.fn Tryz.func58 rfl
  focus (simp [Tryz.f58]<;>exact rfl)
  focus
    refine wa_ T (g:=?_)
    obtain ⟨v3,h1,hr⟩:=bs hr
    apply TO.cal (wn T) rfl goFn61 (figure_within_spec h1) rfl rfl rfl
    repeat exact sd T
    refine wa_ T (g:=?_)
    cases hr
    refine ⟨.inr rfl,_,(ry T),?_⟩
    exact wr [] rfl .nil
  rfl

end Go.Rex

namespace Go.Rex
open Go.Proofs
open Go Go.Rex Go.RowKit
set_option maxRecDepth 100000
set_option maxHeartbeats 200000
def y4:=an @ag29 <| an @cs29 <| an @ok29 <| an @so136 <| @wi64_0a1
theorem figure_firstError_spec {v1 : (List Int)} {v2 : Int} (hr : figure_firstError v1 = some (v2)) : Spec (lim Tryz.prog) 57 [.list 1 (v1.map e_i)] ⟨[.v (.int .i64 v2)],[]⟩:=by
  unfold figure_firstError at hr
  have T:=an y4 <| @e_i.eq_1
  apply Spec.fn Tryz.func57 rfl
  focus (simp [Tryz.f57]<;>exact rfl)
  focus
    refine wc_ T (g:=?_)
    obtain ⟨v7,h7,hr⟩:=bs hr
    refine TX.loopE (step:=figure_firstError_l1 v1) (x:=0) h7 (fun v3=>⟨.junk :: .junk :: .junk :: .junk :: .junk :: .list 1 (v1.map e_i) :: .v (.int .i64 (v1.length : Int)) :: .v (.int .i64 v3) :: .junk :: .junk :: .junk :: .junk :: .junk :: .junk :: .junk :: [],[]⟩) (fun e=>match e with|(.inl v5)=>(.ret,⟨.junk :: .junk :: .v (.int .i64 v5) :: .junk :: .junk :: .junk :: .junk :: .junk :: .junk :: .junk :: .junk :: .junk :: .junk :: .junk :: .junk :: [],[]⟩)|(.inr _)=>(.exit 0,⟨.junk :: .junk :: .junk :: .junk :: .junk :: .junk :: .junk :: .junk :: .junk :: .junk :: .junk :: .junk :: .junk :: .junk :: .junk :: [],[]⟩)) ?_ ?_ ?_ ?_
    · rintro v3 v0 hr
      dsimp only [figure_firstError_l1] at hr
      try dsimp only
      refine wa_ T (g:=?_)
      rcases ifs hr with ⟨h4,hr⟩|⟨h4,hr⟩
      · have T:=an h4 T
        refine wa_ T (g:=?_)
        obtain ⟨v6,h5,hr⟩:=bs hr
        have T:=an (gx e_i h5) T
        refine wA T (g:=?_)
        rcases ifs hr with ⟨h6,hr⟩|⟨h6,hr⟩
        · have T:=an h6 T
          refine wa_ T (g:=?_)
          cases hr
          refine ⟨rfl,?_⟩
          exact wk_ T [] rfl .nil
        · have T:=an h6 T
          refine wa_ T (g:=?_)
          cases hr
          refine ⟨rfl,?_⟩
          exact wk_ T [] rfl .nil
      · have T:=an h4 T
        refine wa_ T (g:=?_)
        cases hr
        refine ⟨rfl,?_⟩
        exact wk_ T [] rfl .nil
    · intro e h;rcases e with _|e<;>cases h
    · try dsimp only
      rcases v7 with v8|_
      · try dsimp only at hr
        try dsimp only
        refine wa_ T (g:=?_)
        cases hr
        refine ⟨.inr rfl,_,(ry T),?_⟩
        exact wr [] rfl .nil
      · try dsimp only at hr
        try dsimp only
        refine wa_ T (g:=?_)
        cases hr
        refine ⟨.inr rfl,_,(ry T),?_⟩
        exact wr [] rfl .nil
    · try dsimp only
      exact wr [] rfl .nil
  rfl

end Go.Rex

namespace Go.Rex
open Go.Proofs
open Go Go.Rex Go.RowKit
set_option maxRecDepth 100000
set_option maxHeartbeats 200000
def y5:=an @ar_141 <| @ex141
theorem math_Trunc_spec {v1 : Nat} {v2 : Nat} (hr : math_Trunc v1 = some (v2)) : Spec (lim Tryz.prog) 124 [.v (.float .f64 v1)] ⟨[.v (.float .f64 v2)],[]⟩:=by
  unfold math_Trunc at hr
  have T:=y5
  apply Spec.fn Tryz.func124 rfl
  focus (simp [Tryz.f124]<;>exact rfl)
  focus
    refine wa_ T (g:=?_)
    obtain ⟨v3,h1,hr⟩:=bs hr
    apply TO.tr (wn T) rfl ex141 ar_141 (by simp only [z1,z3,zl]<;>rfl) h1
    repeat exact sd T
    refine wa_ T (g:=?_)
    cases hr
    refine ⟨.inr rfl,_,(ry T),?_⟩
    exact wr [] rfl .nil
  rfl

end Go.Rex

namespace Go.Rex
open Go.Proofs
open Go Go.Rex Go.RowKit
set_option maxRecDepth 100000
set_option maxHeartbeats 200000
def y6:=an @ex153 <| @ex154
theorem math_Abs_spec {v1 : Nat} {v2 : Nat} (hr : math_Abs v1 = some (v2)) : Spec (lim Tryz.prog) 143 [.v (.float .f64 v1)] ⟨[.v (.float .f64 v2)],[]⟩:=by
  unfold math_Abs at hr
  have T:=y6
  apply Spec.fn Tryz.func143 rfl
  focus (simp [Tryz.f143]<;>exact rfl)
  focus
    refine wa_ T (g:=?_)
    obtain ⟨v3,h1,hr⟩:=bs hr
    apply TO.fb (wn T) rfl ex153 (by simp only [z1,z3,zl]<;>rfl) h1 rfl
    repeat exact sd T
    refine wa_ T (g:=?_)
    apply TO.pop1 (wn T) (pop_bits rfl rfl (by decide))
    repeat exact sd T
    refine wa_ T (g:=?_)
    apply TO.ex (wn T) rfl ex154 (by simp only [z1,z3,zl];exact rfl) rfl rfl (rfl) rfl rfl rfl
    repeat exact sd T
    refine wa_ T (g:=?_)
    cases hr
    refine ⟨.inr rfl,_,(ry T),?_⟩
    exact wr [] rfl .nil
  rfl

end Go.Rex

namespace Go.Rex
open Go.Proofs
open Go Go.Rex Go.RowKit
set_option maxRecDepth 100000
set_option maxHeartbeats 200000
theorem math_IsInf_spec {v1 : Nat} {v2 : Int} {v3 : Bool} (hr : math_IsInf v1 v2 = some (v3)) : Spec (lim Tryz.prog) 125 [.v (.float .f64 v1),.v (.int .i64 v2)] ⟨[.v (.bool v3)],[]⟩:=by
  unfold math_IsInf at hr
  have T:=trivial
  apply Spec.fn Tryz.func125 rfl
  focus (simp [Tryz.f125]<;>exact rfl)
  focus
    refine wa_ T (g:=?_)
    rcases ifs hr with ⟨h1,hr⟩|⟨h1,hr⟩
    · have T:=an h1 T
      refine wa_ T (g:=?_)
      obtain ⟨v4,h2,hr⟩:=bs hr
      apply TO.cal (wn T) rfl goFn143 (math_Abs_spec h2) rfl rfl rfl
      repeat exact sd T
      refine wa_ T (g:=?_)
      apply TO.pop1 (wn T) (pop_fcmp rfl rfl (by decide))
      repeat exact sd T
      refine wa_ T (g:=?_)
      cases hr
      refine ⟨.inr rfl,_,(ry T),?_⟩
      exact wk_ T [] rfl .nil
    · have T:=an h1 T
      refine wa_ T (g:=?_)
      rcases ifs hr with ⟨h3,hr⟩|⟨h3,hr⟩
      · have T:=an h3 T
        refine wa_ T (g:=?_)
        apply TO.pop1 (wn T) (pop_fneg rfl)
        repeat exact sd T
        refine wa_ T (g:=?_)
        apply TO.pop1 (wn T) (pop_fcmp rfl rfl (by decide))
        repeat exact sd T
        refine wa_ T (g:=?_)
        cases hr
        refine ⟨.inr rfl,_,(ry T),?_⟩
        exact wk_ T [] rfl .nil
      · have T:=an h3 T
        refine wa_ T (g:=?_)
        apply TO.pop1 (wn T) (pop_fcmp rfl rfl (by decide))
        repeat exact sd T
        refine wa_ T (g:=?_)
        cases hr
        refine ⟨.inr rfl,_,(ry T),?_⟩
        exact wk_ T [] rfl .nil
  rfl

end Go.Rex

namespace Go.Rex
open Go.Proofs
open Go Go.Rex Go.RowKit
set_option maxRecDepth 100000
set_option maxHeartbeats 200000
def y7:=an @un103 <| @un99
theorem figure_isWhole_spec {v1 : Nat} {v2 : Bool} (hr : figure_isWhole v1 = some (v2)) : Spec (lim Tryz.prog) 99 [.v (.float .f32 v1)] ⟨[.v (.bool v2)],[]⟩:=by
  unfold figure_isWhole at hr
  have T:=y7
  apply Spec.fn Tryz.func99 rfl
  focus (simp [Tryz.f99]<;>exact rfl)
  focus
    refine wa_ T (g:=?_)
    obtain ⟨v3,h1,hr⟩:=bs hr
    apply TO.pop1 (wn T) (cvt_float_float un99 un103 rfl h1)
    repeat exact sd T
    refine wa_ T (g:=?_)
    obtain ⟨v4,h2,hr⟩:=bs hr
    apply TO.cal (wn T) rfl goFn124 (math_Trunc_spec h2) rfl rfl rfl
    repeat exact sd T
    refine wa_ T (g:=?_)
    apply TO.pop1 (wn T) (pop_fcmp rfl rfl (by decide))
    repeat exact sd T
    refine wa_ T (g:=?_)
    rcases ifs hr with ⟨h3,hr⟩|⟨h3,hr⟩
    · have T:=an h3 T
      refine wa_ T (g:=?_)
      obtain ⟨v5,h4,hr⟩:=bs hr
      apply TO.cal (wn T) rfl goFn125 (math_IsInf_spec h4) rfl rfl rfl
      repeat exact sd T
      refine wa_ T (g:=?_)
      apply TO.pop1 (wn T) (pop_not rfl)
      repeat exact sd T
      refine wa_ T (g:=?_)
      cases hr
      refine ⟨.inr rfl,_,(ry T),?_⟩
      exact wk_ T [] rfl .nil
    · have T:=an h3 T
      refine wa_ T (g:=?_)
      cases hr
      refine ⟨.inr rfl,_,(ry T),?_⟩
      exact wk_ T [] rfl .nil
  rfl

end Go.Rex

namespace Go.Rex
open Go.Proofs
open Go Go.Rex Go.RowKit
set_option maxRecDepth 100000
set_option maxHeartbeats 200000
def y8:=an @cs29 <| an @so136 <| @zc29
theorem figure_sampleError_spec {v1 : Nat} {v2 : Int} (hr : figure_sampleError v1 = some (v2)) : Spec (lim Tryz.prog) 60 [.v (.float .f32 v1)] ⟨[.v (.int .i64 v2)],[]⟩:=by
  unfold figure_sampleError at hr
  have T:=an y8 <| @e_i.eq_1
  apply Spec.fn Tryz.func60 rfl
  focus (simp [Tryz.f60]<;>exact rfl)
  focus
    refine wa_ T (g:=?_)
    obtain ⟨v3,h1,hr⟩:=bs hr
    apply TO.cal (wn T) rfl goFn99 (figure_isWhole_spec h1) rfl rfl rfl
    repeat exact sd T
    refine wa_ T (g:=?_)
    apply TO.pop1 (wn T) (pop_not rfl)
    repeat exact sd T
    refine wa_ T (g:=?_)
    obtain ⟨v4,h2,hr⟩:=bs hr
    apply TO.cal (wn T) rfl goFn59 (figure_refuse_spec h2) rfl rfl rfl
    repeat exact sd T
    refine wa_ T (g:=?_)
    apply TO.pop1 (wn T) (pop_fcmp rfl rfl (by decide))
    repeat exact sd T
    refine wa_ T (g:=?_)
    rcases ifs hr with ⟨h3,hr⟩|⟨h3,hr⟩
    · have T:=an h3 T
      refine wa_ T (g:=?_)
      obtain ⟨v5,h4,hr⟩:=bs hr
      apply TO.cal (wn T) rfl goFn59 (figure_refuse_spec h4) rfl rfl rfl
      repeat exact sd T
      refine wa_ T (g:=?_)
      apply TO.bm e_i ([v4,v5] : List Int) (wn T) rfl (by simp only [zz,y8,e_i,Nat.reduceAdd,Nat.reduceMul,Nat.reduceLeDiff,Nat.reduceEqDiff,tslice,tparts,h3];exact rfl) rfl
      repeat exact sd T
      refine wa_ T (g:=?_)
      obtain ⟨v6,h5,hr⟩:=bs hr
      apply TO.cal (wn T) rfl goFn57 (figure_firstError_spec h5) rfl rfl rfl
      repeat exact sd T
      refine wa_ T (g:=?_)
      cases hr
      refine ⟨.inr rfl,_,(ry T),?_⟩
      exact wk_ T [] rfl .nil
    · have T:=an h3 T
      refine wa_ T (g:=?_)
      apply TO.pop1 (wn T) (pop_fcmp rfl rfl (by decide))
      repeat exact sd T
      refine wa_ T (g:=?_)
      obtain ⟨v7,h6,hr⟩:=bs hr
      apply TO.cal (wn T) rfl goFn59 (figure_refuse_spec h6) rfl rfl rfl
      repeat exact sd T
      refine wa_ T (g:=?_)
      apply TO.bm e_i ([v4,v7] : List Int) (wn T) rfl (by simp only [zz,y8,e_i,Nat.reduceAdd,Nat.reduceMul,Nat.reduceLeDiff,Nat.reduceEqDiff,tslice,tparts,h3];exact rfl) rfl
      repeat exact sd T
      refine wa_ T (g:=?_)
      obtain ⟨v8,h7,hr⟩:=bs hr
      apply TO.cal (wn T) rfl goFn57 (figure_firstError_spec h7) rfl rfl rfl
      repeat exact sd T
      refine wa_ T (g:=?_)
      cases hr
      refine ⟨.inr rfl,_,(ry T),?_⟩
      exact wk_ T [] rfl .nil
  rfl

end Go.Rex

namespace Go.Rex
open Go.Proofs
open Go Go.Rex Go.RowKit
set_option maxRecDepth 100000
set_option maxHeartbeats 1000000
def y9:=an @ag22 <| an @ag3 <| an @ag99 <| an @cs29 <| an @cs99 <| an @fd24_0 <| an @fd24_1 <| an @ok99 <| an @so136 <| an @so22 <| an @zc29 <| @wi64_0a1
theorem figure_CheckResponse_spec {v1 : Int} {v2 : (List Nat)} {v3 : Int} {v4 : Int} (hr : figure_CheckResponse v1 v2 = some (v3,v4)) : Spec (lim Tryz.prog) 13 [.agg [.v (.int .i64 v1),.list 1 (v2.map e_f)]] ⟨[.tuple [.v (.int .i64 v3),.v (.int .i64 v4)]],[]⟩:=by
  unfold figure_CheckResponse at hr
  have T:=an y9 <| an @e_f.eq_1 <| @e_i.eq_1
  apply Spec.fn Tryz.func13 rfl
  focus (simp [Tryz.f13]<;>exact rfl)
  focus
    refine wB T (g:=?_)
    obtain ⟨v5,h1,hr⟩:=bs hr
    apply TD.cal (wn T) rfl goFn58 (figure_rateError_spec h1) rfl rfl rfl
    repeat exact sd T
    refine wC T (g:=?_)
    obtain ⟨v6,h2,hr⟩:=bs hr
    apply TD.cal (wn T) rfl goFn59 (figure_refuse_spec h2) rfl rfl rfl
    repeat exact sd T
    refine wC T (g:=?_)
    obtain ⟨v7,h3,hr⟩:=bs hr
    apply TD.cal (wn T) rfl goFn59 (figure_refuse_spec h3) rfl rfl rfl
    repeat exact sd T
    refine wa_ T (g:=?_)
    apply TD.bm e_i ([v5,v6,v7] : List Int) (wn T) rfl (by simp only [zz,y9,e_f,e_i,Nat.reduceAdd,Nat.reduceMul,Nat.reduceLeDiff,Nat.reduceEqDiff,tslice,tparts];exact rfl) rfl
    repeat exact sd T
    refine wa_ T (g:=?_)
    obtain ⟨v8,h4,hr⟩:=bs hr
    apply TD.cal (wn T) rfl goFn57 (figure_firstError_spec h4) rfl rfl rfl
    repeat exact sd T
    refine wa_ T (g:=?_)
    rcases ifs hr with ⟨h5,hr⟩|⟨h5,hr⟩
    · have T:=an h5 T
      refine wa_ T (g:=?_)
      cases hr
      refine ⟨.inr rfl,_,(ry T),?_⟩
      exact wk_ T [] rfl .nil
    · have T:=an h5 T
      refine wC T (g:=?_)
      obtain ⟨v16,h14,hr⟩:=bs hr
      refine TX.loopE (step:=figure_CheckResponse_l1 v2) (x:=0) h14 (fun v9=>⟨.junk :: .junk :: .junk :: .junk :: .junk :: .junk :: .junk :: .junk :: .junk :: .junk :: .junk :: .junk :: .junk :: .junk :: .junk :: .junk :: .junk :: .junk :: .junk :: .junk :: .junk :: .junk :: .junk :: .junk :: .junk :: .junk :: .junk :: .list 1 (v2.map e_f) :: .v (.int .i64 (v2.length : Int)) :: .v (.int .i64 v9) :: .junk :: .junk :: .junk :: .junk :: .junk :: .junk :: .junk :: .junk :: .junk :: .junk :: .junk :: [],[]⟩) (fun e=>match e with|(.inl (v12,v13))=>(.ret,⟨.junk :: .junk :: .v (.int .i64 v12) :: .v (.int .i64 v13) :: .junk :: .junk :: .junk :: .junk :: .junk :: .junk :: .junk :: .junk :: .junk :: .junk :: .junk :: .junk :: .junk :: .junk :: .junk :: .junk :: .junk :: .junk :: .junk :: .junk :: .junk :: .junk :: .junk :: .junk :: .junk :: .junk :: .junk :: .junk :: .junk :: .junk :: .junk :: .junk :: .junk :: .junk :: .junk :: .junk :: .junk :: [],[]⟩)|(.inr _)=>(.exit 0,⟨.junk :: .junk :: .junk :: .junk :: .junk :: .junk :: .junk :: .junk :: .junk :: .junk :: .junk :: .junk :: .junk :: .junk :: .junk :: .junk :: .junk :: .junk :: .junk :: .junk :: .junk :: .junk :: .junk :: .junk :: .junk :: .junk :: .junk :: .junk :: .junk :: .junk :: .junk :: .junk :: .junk :: .junk :: .junk :: .junk :: .junk :: .junk :: .junk :: .junk :: .junk :: [],[]⟩)) ?_ ?_ ?_ ?_
      · rintro v9 v0 hr
        dsimp only [figure_CheckResponse_l1] at hr
        try dsimp only
        refine wa_ T (g:=?_)
        rcases ifs hr with ⟨h10,hr⟩|⟨h10,hr⟩
        · have T:=an h10 T
          refine wa_ T (g:=?_)
          obtain ⟨v14,h11,hr⟩:=bs hr
          have T:=an (gx e_f h11) T
          refine wA T (g:=?_)
          obtain ⟨v15,h12,hr⟩:=bs hr
          apply TO.cal (wn T) rfl goFn60 (figure_sampleError_spec h12) rfl rfl rfl
          repeat exact sd T
          refine wa_ T (g:=?_)
          rcases ifs hr with ⟨h13,hr⟩|⟨h13,hr⟩
          · have T:=an h13 T
            refine wa_ T (g:=?_)
            cases hr
            refine ⟨rfl,?_⟩
            exact wk_ T [] rfl .nil
          · have T:=an h13 T
            refine wa_ T (g:=?_)
            cases hr
            refine ⟨rfl,?_⟩
            exact wk_ T [] rfl .nil
        · have T:=an h10 T
          refine wa_ T (g:=?_)
          cases hr
          refine ⟨rfl,?_⟩
          exact wk_ T [] rfl .nil
      · intro e h;rcases e with _|e<;>cases h
      · try dsimp only
        rcases v16 with ⟨v17,v18⟩|_
        · try dsimp only at hr
          try dsimp only
          refine wa_ T (g:=?_)
          cases hr
          refine ⟨.inr rfl,_,(ry T),?_⟩
          exact wk_ T [] rfl .nil
        · try dsimp only at hr
          try dsimp only
          refine wa_ T (g:=?_)
          cases hr
          refine ⟨.inr rfl,_,(ry T),?_⟩
          exact wk_ T [] rfl .nil
      · try dsimp only
        exact wk_ T [] rfl .nil
  rfl

end Go.Rex

namespace Go.Rex
open Go.Proofs
open Go Go.Rex Go.RowKit
set_option maxRecDepth 100000
set_option maxHeartbeats 200000
def y10:=an @ag24 <| an @ag3 <| an @cs24 <| an @cs29 <| an @fd26_0 <| an @fd26_1 <| an @fd26_2 <| an @ok24 <| an @so136 <| @zc29
theorem figure_CheckAsk_spec {v1 : Int} {v2 : (List Nat)} {v3 : Int} {v4 : Int} {v5 : Int} {v6 : Int} (hr : figure_CheckAsk v1 v2 v3 v4 = some (v5,v6)) : Spec (lim Tryz.prog) 15 [.agg [.v (.int .i64 v1),.list 1 (v2.map e_f),.v (.int .i64 v3),.v (.int .i64 v4)]] ⟨[.tuple [.v (.int .i64 v5),.v (.int .i64 v6)]],[]⟩:=by
  unfold figure_CheckAsk at hr
  have T:=an y10 <| an @e_f.eq_1 <| @e_i.eq_1
  apply Spec.fn Tryz.func15 rfl
  focus (simp [Tryz.f15]<;>exact rfl)
  focus
    refine wB T (g:=?_)
    obtain ⟨⟨v7,v8⟩,h1,hr⟩:=bs hr
    try dsimp only at hr
    apply TO.cal (wn T) rfl goFn13 (figure_CheckResponse_spec h1) rfl rfl rfl
    repeat exact sd T
    refine wa_ T (g:=?_)
    rcases ifs hr with ⟨h2,hr⟩|⟨h2,hr⟩
    · have T:=an h2 T
      refine wa_ T (g:=?_)
      cases hr
      refine ⟨.inr rfl,_,(ry T),?_⟩
      exact wk_ T [] rfl .nil
    · have T:=an h2 T
      refine wA T (g:=?_)
      obtain ⟨v9,h3,hr⟩:=bs hr
      apply TD.cal (wn T) rfl goFn61 (figure_within_spec h3) rfl rfl rfl
      repeat exact sd T
      refine wA T (g:=?_)
      obtain ⟨v10,h4,hr⟩:=bs hr
      apply TD.cal (wn T) rfl goFn61 (figure_within_spec h4) rfl rfl rfl
      repeat exact sd T
      refine wa_ T (g:=?_)
      apply TD.bm e_i ([v9,v10] : List Int) (wn T) rfl (by simp only [zz,y10,e_f,e_i,Nat.reduceAdd,Nat.reduceMul,Nat.reduceLeDiff,Nat.reduceEqDiff,tslice,tparts,h2];exact rfl) rfl
      repeat exact sd T
      refine wa_ T (g:=?_)
      obtain ⟨v11,h5,hr⟩:=bs hr
      apply TD.cal (wn T) rfl goFn57 (figure_firstError_spec h5) rfl rfl rfl
      repeat exact sd T
      refine wa_ T (g:=?_)
      cases hr
      refine ⟨.inr rfl,_,(ry T),?_⟩
      exact wk_ T [] rfl .nil
  rfl

end Go.Rex

namespace Go.Rex
open Go.Proofs
open Go Go.Rex Go.RowKit
set_option maxRecDepth 100000
set_option maxHeartbeats 200000
def y11:=an @ag106 <| an @ag26 <| an @cs106 <| an @cs26 <| an @ok106 <| an @ok26 <| an @st106 <| @zc106
theorem figure_hear_spec {v1 : Int} {v2 : (List Nat)} {v3 : Int} {v4 : Int} {v5 : Int} {v6 : (List Nat)} {v7 : Int} {v8 : Int} {v9 : Int} (hr : figure_hear v1 v2 v3 v4 = some (v5,v6,v7,v8,v9)) : Spec (lim Tryz.prog) 68 [.agg [.v (.int .i64 v1),.list 1 (v2.map e_f),.v (.int .i64 v3),.v (.int .i64 v4)]] ⟨[.tuple [.agg [.v (.int .i64 v5),.list 1 (v6.map e_f),.v (.int .i64 v7),.v (.int .i64 v8)],.v (.int .i64 v9)]],[]⟩:=by
  unfold figure_hear at hr
  have T:=an y11 <| @e_f.eq_1
  apply Spec.fn Tryz.func68 rfl
  focus (simp [Tryz.f68]<;>exact rfl)
  focus
    refine wB T (g:=?_)
    obtain ⟨⟨v10,v11⟩,h1,hr⟩:=bs hr
    try dsimp only at hr
    apply TO.cal (wn T) rfl goFn15 (figure_CheckAsk_spec h1) rfl rfl rfl
    repeat exact sd T
    refine wA T (g:=?_)
    cases hr
    refine ⟨.inr rfl,_,(ry T),?_⟩
    exact wr [] rfl .nil
  rfl

end Go.Rex

namespace Go.Rex
open Go.Proofs
open Go Go.Rex Go.RowKit
set_option maxRecDepth 100000
set_option maxHeartbeats 200000
def y12:=an @ag22 <| an @fd106_0 <| an @fd24_1 <| an @fd26_0 <| @so22
theorem figure_heard_count_spec {v1 : Int} {v2 : (List Nat)} {v3 : Int} {v4 : Int} {v5 : Int} (hr : figure_heard_count v1 v2 v3 v4 = some (v5)) : Spec (lim Tryz.prog) 71 [.agg [.v (.int .i64 v1),.list 1 (v2.map e_f),.v (.int .i64 v3),.v (.int .i64 v4)]] ⟨[.v (.int .i64 v5)],[]⟩:=by
  unfold figure_heard_count at hr
  have T:=an y12 <| @e_f.eq_1
  apply Spec.fn Tryz.func71 rfl
  focus (simp [Tryz.f71]<;>exact rfl)
  focus
    refine wD T (g:=?_)
    cases hr
    refine ⟨.inr rfl,_,(ry T),?_⟩
    exact wr [] rfl .nil
  rfl

end Go.Rex

namespace Go.Rex
open Go.Proofs
open Go Go.Rex Go.RowKit
set_option maxRecDepth 100000
set_option maxHeartbeats 200000
def y13:=an @ag111 <| an @cs111 <| an @ok111 <| an @st111 <| an @st45 <| an @zc111 <| @zc45
theorem figure_between_spec {v1 : Int} {v2 : Int} {v3 : Int} {v4 : Int} (hr : figure_between v1 v2 = some (v3,v4)) : Spec (lim Tryz.prog) 102 [.v (.int .i64 v1),.v (.int .i64 v2)] ⟨[.agg [.v (.int .i64 v3),.v (.int .i64 v4)]],[]⟩:=by
  unfold figure_between at hr
  have T:=y13
  apply Spec.fn Tryz.func102 rfl
  focus (simp [Tryz.f102]<;>exact rfl)
  focus
    refine wa_ T (g:=?_)
    cases hr
    refine ⟨.inr rfl,_,(ry T),?_⟩
    exact wr [] rfl .nil
  rfl

end Go.Rex

namespace Go.Rex
open Go.Proofs
open Go Go.Rex Go.RowKit
set_option maxRecDepth 100000
set_option maxHeartbeats 200000
def y14:=an @ag111 <| an @ag3 <| an @cs111 <| an @fd106_0 <| an @fd26_2 <| an @ok111 <| @zc111
theorem figure_heard_behind_spec {v1 : Int} {v2 : (List Nat)} {v3 : Int} {v4 : Int} {v5 : Int} {v6 : Int} (hr : figure_heard_behind v1 v2 v3 v4 = some (v5,v6)) : Spec (lim Tryz.prog) 73 [.agg [.v (.int .i64 v1),.list 1 (v2.map e_f),.v (.int .i64 v3),.v (.int .i64 v4)]] ⟨[.agg [.v (.int .i64 v5),.v (.int .i64 v6)]],[]⟩:=by
  unfold figure_heard_behind at hr
  have T:=an y14 <| @e_f.eq_1
  apply Spec.fn Tryz.func73 rfl
  focus (simp [Tryz.f73]<;>exact rfl)
  focus
    refine wB T (g:=?_)
    obtain ⟨⟨v7,v8⟩,h1,hr⟩:=bs hr
    try dsimp only at hr
    apply TO.cal (wn T) rfl goFn102 (figure_between_spec h1) rfl rfl rfl
    repeat exact sd T
    refine wa_ T (g:=?_)
    cases hr
    refine ⟨.inr rfl,_,(ry T),?_⟩
    exact wr [] rfl .nil
  rfl

end Go.Rex

namespace Go.Rex
open Go.Proofs
open Go Go.Rex Go.RowKit
set_option maxRecDepth 100000
set_option maxHeartbeats 200000
def y15:=an @ag111 <| an @ag22 <| an @ag3 <| an @ag99 <| an @cs111 <| an @cs99 <| an @fd106_0 <| an @fd24_1 <| an @fd26_0 <| an @fd26_1 <| an @ok111 <| an @ok99 <| an @so22 <| an @un3 <| an @un99 <| @zc111
theorem figure_heard_square_spec {v1 : Int} {v2 : (List Nat)} {v3 : Int} {v4 : Int} {v5 : Int} {v6 : Int} {v7 : Int} (hr : figure_heard_square v1 v2 v3 v4 v5 = some (v6,v7)) : Spec (lim Tryz.prog) 101 [.agg [.v (.int .i64 v1),.list 1 (v2.map e_f),.v (.int .i64 v3),.v (.int .i64 v4)],.v (.int .i64 v5)] ⟨[.agg [.v (.int .i64 v6),.v (.int .i64 v7)]],[]⟩:=by
  unfold figure_heard_square at hr
  have T:=an y15 <| @e_f.eq_1
  apply Spec.fn Tryz.func101 rfl
  focus (simp [Tryz.f101]<;>exact rfl)
  focus
    refine wB T (g:=?_)
    obtain ⟨v8,h1,hr⟩:=bs hr
    have T:=an (gx e_f h1) T
    refine wA T (g:=?_)
    obtain ⟨v9,h2,hr⟩:=bs hr
    apply TO.pop1 (wn T) (cvt_float_int un99 un3 rfl h2)
    repeat exact sd T
    refine wa_ T (g:=?_)
    apply TO.pop1 (wn T) (pop_neg rfl)
    repeat exact sd T
    refine wa_ T (g:=?_)
    apply TO.pop1 (wn T) (pop_max rfl rfl)
    repeat exact sd T
    refine wA T (g:=?_)
    apply TD.pop1 (wn T) (pop_max rfl rfl)
    repeat exact sd T
    refine wA T (g:=?_)
    obtain ⟨⟨v10,v11⟩,h3,hr⟩:=bs hr
    try dsimp only at hr
    apply TO.cal (wn T) rfl goFn102 (figure_between_spec h3) rfl rfl rfl
    repeat exact sd T
    refine wa_ T (g:=?_)
    cases hr
    refine ⟨.inr rfl,_,(ry T),?_⟩
    exact wr [] rfl .nil
  rfl

end Go.Rex

namespace Go.Rex
open Go.Proofs
open Go Go.Rex Go.RowKit
set_option maxRecDepth 100000
set_option maxHeartbeats 200000
def y16:=an @ag111 <| an @ag3 <| an @cs111 <| an @fd111_0 <| an @fd45_0 <| an @fd45_1 <| an @ok111 <| @zc111
theorem figure_ends_plus_spec {v1 : Int} {v2 : Int} {v3 : Int} {v4 : Int} {v5 : Int} {v6 : Int} (hr : figure_ends_plus v1 v2 v3 v4 = some (v5,v6)) : Spec (lim Tryz.prog) 72 [.agg [.v (.int .i64 v1),.v (.int .i64 v2)],.agg [.v (.int .i64 v3),.v (.int .i64 v4)]] ⟨[.agg [.v (.int .i64 v5),.v (.int .i64 v6)]],[]⟩:=by
  unfold figure_ends_plus at hr
  have T:=y16
  apply Spec.fn Tryz.func72 rfl
  focus (simp [Tryz.f72]<;>exact rfl)
  focus
    refine wB T (g:=?_)
    obtain ⟨⟨v7,v8⟩,h1,hr⟩:=bs hr
    try dsimp only at hr
    apply TO.cal (wn T) rfl goFn102 (figure_between_spec h1) rfl rfl rfl
    repeat exact sd T
    refine wa_ T (g:=?_)
    cases hr
    refine ⟨.inr rfl,_,(ry T),?_⟩
    exact wr [] rfl .nil
  rfl

end Go.Rex

namespace Go.Rex
open Go.Proofs
open Go Go.Rex Go.RowKit
set_option maxRecDepth 100000
set_option maxHeartbeats 1000000
def y17:=an @ag106 <| an @ag111 <| an @by111 <| an @cs106 <| an @cs111 <| an @ok106 <| an @ok111 <| an @so117 <| @zc111
theorem figure_heard_sums_spec {v1 : Int} {v2 : (List Nat)} {v3 : Int} {v4 : Int} {v5 : (List (Int × Int))} (hr : figure_heard_sums v1 v2 v3 v4 = some (v5)) : Spec (lim Tryz.prog) 75 [.agg [.v (.int .i64 v1),.list 1 (v2.map e_f),.v (.int .i64 v3),.v (.int .i64 v4)]] ⟨[.lsl 0 0 v5.length],[.rows 2 (v5.map e_ii)]⟩:=by
  unfold figure_heard_sums at hr
  have T:=an y17 <| an @e_f.eq_1 <| @e_ii.eq_1
  apply Spec.fn Tryz.func75 rfl
  focus (simp [Tryz.f75]<;>exact rfl)
  focus
    refine wB T (g:=?_)
    obtain ⟨v6,h1,hr⟩:=bs hr
    apply TO.cal (wn T) rfl goFn71 (figure_heard_count_spec h1) rfl rfl rfl
    repeat exact sd T
    refine wa_ T (g:=?_)
    obtain ⟨v7,h2,hr⟩:=bs hr
    apply TO.mk e_ii h2 (wn T) rfl rfl so117 zc111 by111 rfl rfl rfl
    repeat exact sd T
    refine wA T (g:=?_)
    obtain ⟨v8,h3,hr⟩:=bs hr
    apply TD.cal (wn T) rfl goFn71 (figure_heard_count_spec h3) rfl rfl rfl
    repeat exact sd T
    refine wA T (g:=?_)
    obtain ⟨⟨v9,v10⟩,h4,hr⟩:=bs hr
    try dsimp only at hr
    apply TD.cal (wn T) rfl goFn73 (figure_heard_behind_spec h4) rfl rfl rfl
    repeat exact sd T
    refine wa_ T (g:=?_)
    obtain ⟨⟨v11,v12⟩,h5,hr⟩:=bs hr
    try dsimp only at hr
    have h5m:=tidx_map (f:=e_ii) h5
    have h5l:=getI_lt h5
    try simp only [List.length_set] at h5l
    have h5a:=getI_at h5
    have T:=an h5m T
    have T:=an h5l T
    have T:=an h5a T
    refine wa_ T (g:=?_)
    apply TD.sr e_ii v7 (v11,v12) (v9,v10) h5a (wn T) rfl rfl rfl rfl rfl ok111 (by rw [cs111];rfl) rfl rfl rfl rfl rfl
    repeat exact sd T
    refine wA T (g:=?_)
    obtain ⟨v13,h6,hr⟩:=bs hr
    apply TO.cal (wn T) rfl goFn71 (figure_heard_count_spec h6) rfl rfl rfl
    repeat exact sd T
    refine wa_ T (g:=?_)
    obtain ⟨v33,h17,hr⟩:=bs hr
    refine TX.loopE (step:=figure_heard_sums_l1 v1 v2 v3 v4) (x:=((v7.set v8.toNat (v9,v10)),(IntKind.i64.wrap (v13 - 1)))) h17 (fun (v14,v15)=>⟨.junk :: .fptr true [.v (.int .i64 v1),.list 1 (v2.map e_f),.v (.int .i64 v3),.v (.int .i64 v4)] 0 :: .junk :: .lsl 0 0 v14.length :: .v (.int .i64 v15) :: .junk :: .junk :: .junk :: .junk :: .junk :: .junk :: .junk :: .junk :: .junk :: .junk :: .junk :: .junk :: .junk :: .junk :: .junk :: .junk :: .junk :: .junk :: .junk :: .junk :: .junk :: .junk :: .junk :: .junk :: .junk :: .junk :: .junk :: .junk :: .junk :: .junk :: [],[.rows 2 (v14.map e_ii)]⟩) (fun v24=>(.exit 0,⟨.junk :: .junk :: .junk :: .lsl 0 0 v24.length :: .junk :: .junk :: .junk :: .junk :: .junk :: .junk :: .junk :: .junk :: .junk :: .junk :: .junk :: .junk :: .junk :: .junk :: .junk :: .junk :: .junk :: .junk :: .junk :: .junk :: .junk :: .junk :: .junk :: .junk :: .junk :: .junk :: .junk :: .junk :: .junk :: .junk :: .junk :: [],[.rows 2 (v24.map e_ii)]⟩)) ?_ ?_ ?_ ?_
    · rintro ⟨v14,v15⟩ v0 hr
      dsimp only [figure_heard_sums_l1] at hr
      try dsimp only
      refine wa_ T (g:=?_)
      rcases ifs hr with ⟨h12,hr⟩|⟨h12,hr⟩
      · have T:=an h12 T
        refine wa_ T (g:=?_)
        obtain ⟨⟨v25,v26⟩,h13,hr⟩:=bs hr
        try dsimp only at hr
        have h13m:=tidx_map (f:=e_ii) h13
        have h13l:=getI_lt h13
        try simp only [List.length_set] at h13l
        have h13a:=getI_at h13
        have T:=an h13m T
        have T:=an h13l T
        have T:=an h13a T
        refine wA T (g:=?_)
        obtain ⟨⟨v27,v28⟩,h14,hr⟩:=bs hr
        try dsimp only at hr
        apply TD.cal (wn T) rfl goFn101 (figure_heard_square_spec h14) rfl rfl rfl
        repeat exact sd T
        refine wa_ T (g:=?_)
        obtain ⟨⟨v29,v30⟩,h15,hr⟩:=bs hr
        try dsimp only at hr
        apply TD.cal (wn T) rfl goFn72 (figure_ends_plus_spec h15) rfl rfl rfl
        repeat exact sd T
        refine wa_ T (g:=?_)
        obtain ⟨⟨v31,v32⟩,h16,hr⟩:=bs hr
        try dsimp only at hr
        have h16m:=tidx_map (f:=e_ii) h16
        have h16l:=getI_lt h16
        try simp only [List.length_set] at h16l
        have h16a:=getI_at h16
        have T:=an h16m T
        have T:=an h16l T
        have T:=an h16a T
        refine wa_ T (g:=?_)
        apply TD.sr e_ii v14 (v31,v32) (v29,v30) h16a (wn T) rfl rfl rfl rfl rfl ok111 (by rw [cs111];rfl) rfl rfl rfl rfl rfl
        repeat exact sd T
        refine wa_ T (g:=?_)
        cases hr
        refine ⟨rfl,?_⟩
        exact wk_ T [some 0] rfl (.rows .nil rfl rfl)
      · have T:=an h12 T
        refine wa_ T (g:=?_)
        cases hr
        refine ⟨rfl,?_⟩
        exact wk_ T [some 0] rfl (.rows .nil rfl rfl)
    · intro e h;cases h
    · try dsimp only
      refine wa_ T (g:=?_)
      cases hr
      refine ⟨.inr rfl,_,(ry T),?_⟩
      exact wr [some 0] rfl (.rows .nil rfl rfl)
    · try dsimp only
      exact wr [some 0] rfl (.rows .nil rfl rfl)
  rfl

end Go.Rex

namespace Go.Rex
open Go.Proofs
open Go Go.Rex Go.RowKit
set_option maxRecDepth 100000
set_option maxHeartbeats 200000
def y18:=an @ag106 <| an @ag111 <| an @cs106 <| an @cs111 <| an @ok106 <| an @ok111 <| an @so117 <| @zc111
theorem figure_heard_all_spec {v1 : Int} {v2 : (List Nat)} {v3 : Int} {v4 : Int} {v5 : Int} {v6 : Int} (hr : figure_heard_all v1 v2 v3 v4 = some (v5,v6)) : Spec (lim Tryz.prog) 87 [.agg [.v (.int .i64 v1),.list 1 (v2.map e_f),.v (.int .i64 v3),.v (.int .i64 v4)]] ⟨[.agg [.v (.int .i64 v5),.v (.int .i64 v6)]],[]⟩:=by
  unfold figure_heard_all at hr
  have T:=an y18 <| an @e_f.eq_1 <| @e_ii.eq_1
  apply Spec.fn Tryz.func87 rfl
  focus (simp [Tryz.f87]<;>exact rfl)
  focus
    refine wB T (g:=?_)
    obtain ⟨v7,h1,hr⟩:=bs hr
    apply TO.cal (wn T) rfl goFn75 (figure_heard_sums_spec h1) rfl rfl rfl
    repeat exact sd T
    refine wa_ T (g:=?_)
    obtain ⟨⟨v8,v9⟩,h2,hr⟩:=bs hr
    try dsimp only at hr
    have T:=an (gx e_ii h2) T
    refine wA T (g:=?_)
    cases hr
    refine ⟨.inr rfl,_,(ry T),?_⟩
    exact wr [] rfl .nil
  rfl

end Go.Rex

namespace Go.Rex
open Go.Proofs
open Go Go.Rex Go.RowKit
set_option maxRecDepth 100000
set_option maxHeartbeats 200000
def y19:=an @ag111 <| an @ag3 <| an @cs111 <| an @fd111_0 <| an @fd45_0 <| an @fd45_1 <| an @ok111 <| @zc111
theorem figure_ends_times_spec {v1 : Int} {v2 : Int} {v3 : Int} {v4 : Int} {v5 : Int} (hr : figure_ends_times v1 v2 v3 = some (v4,v5)) : Spec (lim Tryz.prog) 111 [.agg [.v (.int .i64 v1),.v (.int .i64 v2)],.v (.int .i64 v3)] ⟨[.agg [.v (.int .i64 v4),.v (.int .i64 v5)]],[]⟩:=by
  unfold figure_ends_times at hr
  have T:=y19
  apply Spec.fn Tryz.func111 rfl
  focus (simp [Tryz.f111]<;>exact rfl)
  focus
    refine wB T (g:=?_)
    obtain ⟨⟨v6,v7⟩,h1,hr⟩:=bs hr
    try dsimp only at hr
    apply TO.cal (wn T) rfl goFn102 (figure_between_spec h1) rfl rfl rfl
    repeat exact sd T
    refine wa_ T (g:=?_)
    cases hr
    refine ⟨.inr rfl,_,(ry T),?_⟩
    exact wr [] rfl .nil
  rfl

end Go.Rex

namespace Go.Rex
open Go.Proofs
open Go Go.Rex Go.RowKit
set_option maxRecDepth 100000
set_option maxHeartbeats 200000
def y20:=an @ag106 <| an @ag111 <| an @cs106 <| an @cs111 <| an @ok106 <| an @ok111 <| an @zc111 <| @wi64_0a1
theorem figure_heard_moment_spec {v1 : Int} {v2 : (List Nat)} {v3 : Int} {v4 : Int} {v5 : Int} {v6 : Int} (hr : figure_heard_moment v1 v2 v3 v4 = some (v5,v6)) : Spec (lim Tryz.prog) 116 [.agg [.v (.int .i64 v1),.list 1 (v2.map e_f),.v (.int .i64 v3),.v (.int .i64 v4)]] ⟨[.agg [.v (.int .i64 v5),.v (.int .i64 v6)]],[]⟩:=by
  unfold figure_heard_moment at hr
  have T:=an y20 <| @e_f.eq_1
  apply Spec.fn Tryz.func116 rfl
  focus (simp [Tryz.f116]<;>exact rfl)
  focus
    refine wB T (g:=?_)
    obtain ⟨v7,h1,hr⟩:=bs hr
    apply TO.cal (wn T) rfl goFn71 (figure_heard_count_spec h1) rfl rfl rfl
    repeat exact sd T
    refine wa_ T (g:=?_)
    obtain ⟨⟨v25,v26⟩,h10,hr⟩:=bs hr
    try dsimp only at hr
    refine TX.loopE (step:=figure_heard_moment_l1 v1 v2 v3 v4 v7) (x:=(0,0,0)) h10 (fun (v8,v9,v10)=>⟨.junk :: .fptr true [.v (.int .i64 v1),.list 1 (v2.map e_f),.v (.int .i64 v3),.v (.int .i64 v4)] 0 :: .lptr 0 0 0 :: .lptr 1 0 0 :: .junk :: .junk :: .v (.int .i64 v7) :: .v (.int .i64 v10) :: .junk :: .junk :: .junk :: .junk :: .junk :: .junk :: .junk :: .junk :: .junk :: .junk :: .junk :: [],[.var [.v (.int .i64 0),.v (.int .i64 0)],.var [.v (.int .i64 v8),.v (.int .i64 v9)]]⟩) (fun (v17,v18)=>(.exit 0,⟨.junk :: .junk :: .lptr 0 0 0 :: .lptr 1 0 0 :: .junk :: .junk :: .junk :: .junk :: .junk :: .junk :: .junk :: .junk :: .junk :: .junk :: .junk :: .junk :: .junk :: .junk :: .junk :: [],[.var [.v (.int .i64 0),.v (.int .i64 0)],.var [.v (.int .i64 v17),.v (.int .i64 v18)]]⟩)) ?_ ?_ ?_ ?_
    · rintro ⟨v8,v9,v10⟩ v0 hr
      dsimp only [figure_heard_moment_l1] at hr
      try dsimp only
      refine wa_ T (g:=?_)
      rcases ifs hr with ⟨h6,hr⟩|⟨h6,hr⟩
      · have T:=an h6 T
        refine wA T (g:=?_)
        obtain ⟨⟨v19,v20⟩,h7,hr⟩:=bs hr
        try dsimp only at hr
        apply TD.cal (wn T) rfl goFn101 (figure_heard_square_spec h7) rfl rfl rfl
        repeat exact sd T
        refine wa_ T (g:=?_)
        obtain ⟨⟨v21,v22⟩,h8,hr⟩:=bs hr
        try dsimp only at hr
        apply TD.cal (wn T) rfl goFn111 (figure_ends_times_spec h8) rfl rfl rfl
        repeat exact sd T
        refine wa_ T (g:=?_)
        obtain ⟨⟨v23,v24⟩,h9,hr⟩:=bs hr
        try dsimp only at hr
        apply TD.cal (wn T) rfl goFn72 (figure_ends_plus_spec h9) rfl rfl rfl
        repeat exact sd T
        refine wa_ T (g:=?_)
        cases hr
        refine ⟨rfl,?_⟩
        exact wk_ T [some 0,some 1] rfl (rv (rv .nil rfl) rfl)
      · have T:=an h6 T
        refine wa_ T (g:=?_)
        cases hr
        refine ⟨rfl,?_⟩
        exact wk_ T [some 0,some 1] rfl (rv (rv .nil rfl) rfl)
    · intro e h;cases h
    · try dsimp only
      refine wA T (g:=?_)
      cases hr
      refine ⟨.inr rfl,_,(ry T),?_⟩
      exact wr [] rfl .nil
    · try dsimp only
      exact wr [some 0,some 1] rfl (rv (rv .nil rfl) rfl)
  rfl

end Go.Rex

namespace Go.Rex
open Go.Proofs
open Go Go.Rex Go.RowKit
set_option maxRecDepth 100000
set_option maxHeartbeats 200000
theorem math_bits_Mul64_spec {v1 : Int} {v2 : Int} {v3 : Int} {v4 : Int} (hr : math_bits_Mul64 v1 v2 = some (v3,v4)) : Spec (lim Tryz.prog) 126 [.v (.int .u64 v1),.v (.int .u64 v2)] ⟨[.tuple [.v (.int .u64 v3),.v (.int .u64 v4)]],[]⟩:=by
  unfold math_bits_Mul64 at hr
  have T:=trivial
  apply Spec.fn Tryz.func126 rfl
  focus (simp [Tryz.f126]<;>exact rfl)
  focus
    refine wa_ T (g:=?_)
    apply TO.pop1 (wn T) (pop_bits rfl rfl (by decide))
    repeat exact sd T
    refine wa_ T (g:=?_)
    obtain ⟨v5,h1,hr⟩:=bs hr
    apply TO.pop1 (wn T) (pop_shift rfl rfl (by decide) (h1))
    repeat exact sd T
    refine wa_ T (g:=?_)
    apply TO.pop1 (wn T) (pop_bits rfl rfl (by decide))
    repeat exact sd T
    refine wa_ T (g:=?_)
    obtain ⟨v6,h2,hr⟩:=bs hr
    apply TO.pop1 (wn T) (pop_shift rfl rfl (by decide) (h2))
    repeat exact sd T
    refine wa_ T (g:=?_)
    obtain ⟨v7,h3,hr⟩:=bs hr
    apply TO.pop1 (wn T) (pop_shift rfl rfl (by decide) (h3))
    repeat exact sd T
    refine wa_ T (g:=?_)
    apply TO.pop1 (wn T) (pop_bits rfl rfl (by decide))
    repeat exact sd T
    refine wa_ T (g:=?_)
    obtain ⟨v8,h4,hr⟩:=bs hr
    apply TO.pop1 (wn T) (pop_shift rfl rfl (by decide) (h4))
    repeat exact sd T
    refine wa_ T (g:=?_)
    obtain ⟨v9,h5,hr⟩:=bs hr
    apply TO.pop1 (wn T) (pop_shift rfl rfl (by decide) (h5))
    repeat exact sd T
    refine wa_ T (g:=?_)
    cases hr
    refine ⟨.inr rfl,_,(ry T),?_⟩
    exact wr [] rfl .nil
  rfl

end Go.Rex

namespace Go.Rex
open Go.Proofs
open Go Go.Rex Go.RowKit
set_option maxRecDepth 100000
set_option maxHeartbeats 200000
def y21:=an @ag140 <| an @cs140 <| an @ok140 <| an @st140 <| an @un138 <| an @un3 <| @zc140
theorem figure_product_spec {v1 : Int} {v2 : Int} {v3 : Int} {v4 : Int} (hr : figure_product v1 v2 = some (v3,v4)) : Spec (lim Tryz.prog) 104 [.v (.int .i64 v1),.v (.int .i64 v2)] ⟨[.agg [.v (.int .u64 v3),.v (.int .u64 v4)]],[]⟩:=by
  unfold figure_product at hr
  have T:=y21
  apply Spec.fn Tryz.func104 rfl
  focus (simp [Tryz.f104]<;>exact rfl)
  focus
    refine wa_ T (g:=?_)
    apply TO.pop1 (wn T) (cvt_int_int un3 un138 rfl)
    repeat exact sd T
    refine wa_ T (g:=?_)
    apply TO.pop1 (wn T) (cvt_int_int un3 un138 rfl)
    repeat exact sd T
    refine wa_ T (g:=?_)
    obtain ⟨⟨v5,v6⟩,h1,hr⟩:=bs hr
    try dsimp only at hr
    apply TO.cal (wn T) rfl goFn126 (math_bits_Mul64_spec h1) rfl rfl rfl
    repeat exact sd T
    refine wa_ T (g:=?_)
    cases hr
    refine ⟨.inr rfl,_,(ry T),?_⟩
    exact wr [] rfl .nil
  rfl

end Go.Rex

namespace Go.Rex
open Go.Proofs
open Go Go.Rex Go.RowKit
set_option maxRecDepth 100000
set_option maxHeartbeats 1000000
def y22:=an @un138 <| an @un3 <| an @un5 <| an @us9 <| an @wi64_0a16 <| an @wi64_0a8 <| an @wi64_16a8 <| an @wi64_32a16 <| an @wi64_32a8 <| @wi64_48a8
theorem math_bits_Len64_spec {v1 : Int} {v2 : Int} (hr : math_bits_Len64 v1 = some (v2)) : Spec (lim Tryz.prog) 155 [.v (.int .u64 v1)] ⟨[.v (.int .i64 v2)],[]⟩:=by
  unfold math_bits_Len64 at hr
  have T:=y22
  apply Spec.fn Tryz.func155 rfl
  focus (simp [Tryz.f155]<;>exact rfl)
  focus
    refine wa_ T (g:=?_)
    rcases ifs hr with ⟨h1,hr⟩|⟨h1,hr⟩
    · have T:=an h1 T
      refine wa_ T (g:=?_)
      obtain ⟨v3,h2,hr⟩:=bs hr
      apply TO.pop1 (wn T) (pop_shift rfl rfl (by decide) (h2))
      repeat exact sd T
      refine wa_ T (g:=?_)
      rcases ifs hr with ⟨h3,hr⟩|⟨h3,hr⟩
      · have T:=an h3 T
        refine wa_ T (g:=?_)
        obtain ⟨v4,h4,hr⟩:=bs hr
        apply TO.pop1 (wn T) (pop_shift rfl rfl (by decide) (h4))
        repeat exact sd T
        refine wa_ T (g:=?_)
        rcases ifs hr with ⟨h5,hr⟩|⟨h5,hr⟩
        · have T:=an h5 T
          refine wa_ T (g:=?_)
          obtain ⟨v5,h6,hr⟩:=bs hr
          apply TO.pop1 (wn T) (pop_shift rfl rfl (by decide) (h6))
          repeat exact sd T
          refine wa_ T (g:=?_)
          apply TO.pop1 (wn T) (cvt_int_int un138 un5 rfl)
          repeat exact sd T
          refine wa_ T (g:=?_)
          obtain ⟨v6,h7,hr⟩:=bs hr
          apply TO.pop1 (wn T) (pop_strix rfl rfl us9 h7)
          repeat exact sd T
          refine wa_ T (g:=?_)
          apply TO.pop1 (wn T) (cvt_int_int un5 un3 rfl)
          repeat exact sd T
          refine wa_ T (g:=?_)
          cases hr
          refine ⟨.inr rfl,_,(ry T),?_⟩
          exact wk_ T [] rfl .nil
        · have T:=an h5 T
          refine wa_ T (g:=?_)
          apply TO.pop1 (wn T) (cvt_int_int un138 un5 rfl)
          repeat exact sd T
          refine wa_ T (g:=?_)
          obtain ⟨v7,h8,hr⟩:=bs hr
          apply TO.pop1 (wn T) (pop_strix rfl rfl us9 h8)
          repeat exact sd T
          refine wa_ T (g:=?_)
          apply TO.pop1 (wn T) (cvt_int_int un5 un3 rfl)
          repeat exact sd T
          refine wa_ T (g:=?_)
          cases hr
          refine ⟨.inr rfl,_,(ry T),?_⟩
          exact wk_ T [] rfl .nil
      · have T:=an h3 T
        refine wa_ T (g:=?_)
        rcases ifs hr with ⟨h9,hr⟩|⟨h9,hr⟩
        · have T:=an h9 T
          refine wa_ T (g:=?_)
          obtain ⟨v8,h10,hr⟩:=bs hr
          apply TO.pop1 (wn T) (pop_shift rfl rfl (by decide) (h10))
          repeat exact sd T
          refine wa_ T (g:=?_)
          apply TO.pop1 (wn T) (cvt_int_int un138 un5 rfl)
          repeat exact sd T
          refine wa_ T (g:=?_)
          obtain ⟨v9,h11,hr⟩:=bs hr
          apply TO.pop1 (wn T) (pop_strix rfl rfl us9 h11)
          repeat exact sd T
          refine wa_ T (g:=?_)
          apply TO.pop1 (wn T) (cvt_int_int un5 un3 rfl)
          repeat exact sd T
          refine wa_ T (g:=?_)
          cases hr
          refine ⟨.inr rfl,_,(ry T),?_⟩
          exact wk_ T [] rfl .nil
        · have T:=an h9 T
          refine wa_ T (g:=?_)
          apply TO.pop1 (wn T) (cvt_int_int un138 un5 rfl)
          repeat exact sd T
          refine wa_ T (g:=?_)
          obtain ⟨v10,h12,hr⟩:=bs hr
          apply TO.pop1 (wn T) (pop_strix rfl rfl us9 h12)
          repeat exact sd T
          refine wa_ T (g:=?_)
          apply TO.pop1 (wn T) (cvt_int_int un5 un3 rfl)
          repeat exact sd T
          refine wa_ T (g:=?_)
          cases hr
          refine ⟨.inr rfl,_,(ry T),?_⟩
          exact wk_ T [] rfl .nil
    · have T:=an h1 T
      refine wa_ T (g:=?_)
      rcases ifs hr with ⟨h13,hr⟩|⟨h13,hr⟩
      · have T:=an h13 T
        refine wa_ T (g:=?_)
        obtain ⟨v11,h14,hr⟩:=bs hr
        apply TO.pop1 (wn T) (pop_shift rfl rfl (by decide) (h14))
        repeat exact sd T
        refine wa_ T (g:=?_)
        rcases ifs hr with ⟨h15,hr⟩|⟨h15,hr⟩
        · have T:=an h15 T
          refine wa_ T (g:=?_)
          obtain ⟨v12,h16,hr⟩:=bs hr
          apply TO.pop1 (wn T) (pop_shift rfl rfl (by decide) (h16))
          repeat exact sd T
          refine wa_ T (g:=?_)
          apply TO.pop1 (wn T) (cvt_int_int un138 un5 rfl)
          repeat exact sd T
          refine wa_ T (g:=?_)
          obtain ⟨v13,h17,hr⟩:=bs hr
          apply TO.pop1 (wn T) (pop_strix rfl rfl us9 h17)
          repeat exact sd T
          refine wa_ T (g:=?_)
          apply TO.pop1 (wn T) (cvt_int_int un5 un3 rfl)
          repeat exact sd T
          refine wa_ T (g:=?_)
          cases hr
          refine ⟨.inr rfl,_,(ry T),?_⟩
          exact wk_ T [] rfl .nil
        · have T:=an h15 T
          refine wa_ T (g:=?_)
          apply TO.pop1 (wn T) (cvt_int_int un138 un5 rfl)
          repeat exact sd T
          refine wa_ T (g:=?_)
          obtain ⟨v14,h18,hr⟩:=bs hr
          apply TO.pop1 (wn T) (pop_strix rfl rfl us9 h18)
          repeat exact sd T
          refine wa_ T (g:=?_)
          apply TO.pop1 (wn T) (cvt_int_int un5 un3 rfl)
          repeat exact sd T
          refine wa_ T (g:=?_)
          cases hr
          refine ⟨.inr rfl,_,(ry T),?_⟩
          exact wk_ T [] rfl .nil
      · have T:=an h13 T
        refine wa_ T (g:=?_)
        rcases ifs hr with ⟨h19,hr⟩|⟨h19,hr⟩
        · have T:=an h19 T
          refine wa_ T (g:=?_)
          obtain ⟨v15,h20,hr⟩:=bs hr
          apply TO.pop1 (wn T) (pop_shift rfl rfl (by decide) (h20))
          repeat exact sd T
          refine wa_ T (g:=?_)
          apply TO.pop1 (wn T) (cvt_int_int un138 un5 rfl)
          repeat exact sd T
          refine wa_ T (g:=?_)
          obtain ⟨v16,h21,hr⟩:=bs hr
          apply TO.pop1 (wn T) (pop_strix rfl rfl us9 h21)
          repeat exact sd T
          refine wa_ T (g:=?_)
          apply TO.pop1 (wn T) (cvt_int_int un5 un3 rfl)
          repeat exact sd T
          refine wa_ T (g:=?_)
          cases hr
          refine ⟨.inr rfl,_,(ry T),?_⟩
          exact wk_ T [] rfl .nil
        · have T:=an h19 T
          refine wa_ T (g:=?_)
          apply TO.pop1 (wn T) (cvt_int_int un138 un5 rfl)
          repeat exact sd T
          refine wa_ T (g:=?_)
          obtain ⟨v17,h22,hr⟩:=bs hr
          apply TO.pop1 (wn T) (pop_strix rfl rfl us9 h22)
          repeat exact sd T
          refine wa_ T (g:=?_)
          apply TO.pop1 (wn T) (cvt_int_int un5 un3 rfl)
          repeat exact sd T
          refine wa_ T (g:=?_)
          cases hr
          refine ⟨.inr rfl,_,(ry T),?_⟩
          exact wk_ T [] rfl .nil
  rfl

end Go.Rex

namespace Go.Rex
open Go.Proofs
open Go Go.Rex Go.RowKit
set_option maxRecDepth 100000
set_option maxHeartbeats 200000
theorem math_bits_LeadingZeros64_spec {v1 : Int} {v2 : Int} (hr : math_bits_LeadingZeros64 v1 = some (v2)) : Spec (lim Tryz.prog) 144 [.v (.int .u64 v1)] ⟨[.v (.int .i64 v2)],[]⟩:=by
  unfold math_bits_LeadingZeros64 at hr
  have T:=trivial
  apply Spec.fn Tryz.func144 rfl
  focus (simp [Tryz.f144]<;>exact rfl)
  focus
    refine wa_ T (g:=?_)
    obtain ⟨v3,h1,hr⟩:=bs hr
    apply TO.cal (wn T) rfl goFn155 (math_bits_Len64_spec h1) rfl rfl rfl
    repeat exact sd T
    refine wa_ T (g:=?_)
    cases hr
    refine ⟨.inr rfl,_,(ry T),?_⟩
    exact wr [] rfl .nil
  rfl

end Go.Rex

namespace Go.Rex
open Go.Proofs
open Go Go.Rex Go.RowKit
set_option maxRecDepth 100000
set_option maxHeartbeats 1000000
def y23:=an @un176 <| @un3
theorem math_bits_Div64_spec {v1 : Int} {v2 : Int} {v3 : Int} {v4 : Int} {v5 : Int} (hr : math_bits_Div64 v1 v2 v3 = some (v4,v5)) : Spec (lim Tryz.prog) 131 [.v (.int .u64 v1),.v (.int .u64 v2),.v (.int .u64 v3)] ⟨[.tuple [.v (.int .u64 v4),.v (.int .u64 v5)]],[]⟩:=by
  unfold math_bits_Div64 at hr
  have T:=y23
  apply Spec.fn Tryz.func131 rfl
  focus (simp [Tryz.f131]<;>exact rfl)
  focus
    refine wa_ T (g:=?_)
    rcases ifs hr with ⟨h1,hr⟩|⟨h1,hr⟩
    · cases hr
    · have T:=an h1 T
      refine wa_ T (g:=?_)
      rcases ifs hr with ⟨h2,hr⟩|⟨h2,hr⟩
      · cases hr
      · have T:=an h2 T
        refine wa_ T (g:=?_)
        rcases ifs hr with ⟨h3,hr⟩|⟨h3,hr⟩
        · have T:=an h3 T
          refine wa_ T (g:=?_)
          by_cases h4 : v3 = 0
          · rw [if_pos h4] at hr
            cases hr
          · rw [if_neg h4] at hr
            have T:=an h4 T
            refine wa_ T (g:=?_)
            cases hr
            refine ⟨.inr rfl,_,(ry T),?_⟩
            exact wk_ T [] rfl .nil
        · have T:=an h3 T
          refine wa_ T (g:=?_)
          obtain ⟨v6,h5,hr⟩:=bs hr
          apply TO.cal (wn T) rfl goFn144 (math_bits_LeadingZeros64_spec h5) rfl rfl rfl
          repeat exact sd T
          refine wa_ T (g:=?_)
          apply TO.pop1 (wn T) (cvt_int_int un3 un176 rfl)
          repeat exact sd T
          refine wa_ T (g:=?_)
          obtain ⟨v7,h6,hr⟩:=bs hr
          apply TO.pop1 (wn T) (pop_shift rfl rfl (by decide) (h6))
          repeat exact sd T
          refine wa_ T (g:=?_)
          obtain ⟨v8,h7,hr⟩:=bs hr
          apply TO.pop1 (wn T) (pop_shift rfl rfl (by decide) (h7))
          repeat exact sd T
          refine wa_ T (g:=?_)
          apply TO.pop1 (wn T) (pop_bits rfl rfl (by decide))
          repeat exact sd T
          refine wa_ T (g:=?_)
          obtain ⟨v9,h8,hr⟩:=bs hr
          apply TO.pop1 (wn T) (pop_shift rfl rfl (by decide) (h8))
          repeat exact sd T
          refine wa_ T (g:=?_)
          obtain ⟨v10,h9,hr⟩:=bs hr
          apply TO.pop1 (wn T) (pop_shift rfl rfl (by decide) (h9))
          repeat exact sd T
          refine wa_ T (g:=?_)
          apply TO.pop1 (wn T) (pop_bits rfl rfl (by decide))
          repeat exact sd T
          refine wa_ T (g:=?_)
          obtain ⟨v11,h10,hr⟩:=bs hr
          apply TO.pop1 (wn T) (pop_shift rfl rfl (by decide) (h10))
          repeat exact sd T
          refine wa_ T (g:=?_)
          obtain ⟨v12,h11,hr⟩:=bs hr
          apply TO.pop1 (wn T) (pop_shift rfl rfl (by decide) (h11))
          repeat exact sd T
          refine wa_ T (g:=?_)
          apply TO.pop1 (wn T) (pop_bits rfl rfl (by decide))
          repeat exact sd T
          refine wa_ T (g:=?_)
          by_cases h12 : v8 = 0
          · rw [if_pos h12] at hr
            cases hr
          · rw [if_neg h12] at hr
            have T:=an h12 T
            refine wa_ T (g:=?_)
            obtain ⟨v16,h21,hr⟩:=bs hr
            refine TX.loopE (step:=math_bits_Div64_l1 v7 v8 v12) (x:=((IntKind.u64.wrap ((bitI .or .u64 v9 v10).tdiv v8)),(IntKind.u64.wrap ((bitI .or .u64 v9 v10) - (IntKind.u64.wrap ((IntKind.u64.wrap ((bitI .or .u64 v9 v10).tdiv v8)) * v8)))))) h21 (fun (v13,v14)=>⟨.junk :: .junk :: .v (.int .u64 v7) :: .junk :: .junk :: .junk :: .junk :: .junk :: .v (.int .u64 (IntKind.u64.wrap v6)) :: .v (.int .u64 v8) :: .v (.int .u64 (bitI .and .u64 v7 4294967295)) :: .v (.int .u64 (bitI .or .u64 v9 v10)) :: .junk :: .v (.int .u64 v12) :: .v (.int .u64 (bitI .and .u64 v11 4294967295)) :: .v (.int .u64 v13) :: .v (.int .u64 v14) :: .junk :: .junk :: .junk :: .junk :: .junk :: .junk :: .junk :: .junk :: .junk :: .junk :: .junk :: .junk :: .junk :: .junk :: .junk :: .junk :: .junk :: .junk :: .junk :: .junk :: .junk :: .junk :: .junk :: .junk :: .junk :: .junk :: .junk :: .junk :: .junk :: .junk :: .junk :: .junk :: .junk :: .junk :: .junk :: .junk :: .junk :: .junk :: .junk :: .junk :: .junk :: .junk :: .junk :: .junk :: .junk :: .junk :: .junk :: .junk :: .junk :: .junk :: .junk :: .junk :: .junk :: .junk :: .junk :: .junk :: .junk :: .junk :: .junk :: .junk :: .junk :: .junk :: .junk :: .junk :: .junk :: .junk :: .junk :: .junk :: .junk :: .junk :: .junk :: .junk :: .junk :: .junk :: .junk :: .junk :: .junk :: .junk :: .junk :: .junk :: .junk :: .junk :: .junk :: .junk :: .junk :: .junk :: .junk :: .junk :: .junk :: .junk :: .junk :: .junk :: .junk :: .junk :: .junk :: .junk :: .junk :: .junk :: .junk :: .junk :: .junk :: .junk :: .junk :: .junk :: .junk :: .junk :: .junk :: .junk :: .junk :: .junk :: .junk :: .junk :: .junk :: .junk :: .junk :: .junk :: .junk :: .junk :: [],[]⟩) (fun v15=>(.exit 0,⟨.junk :: .junk :: .v (.int .u64 v7) :: .junk :: .junk :: .junk :: .junk :: .junk :: .v (.int .u64 (IntKind.u64.wrap v6)) :: .v (.int .u64 v8) :: .v (.int .u64 (bitI .and .u64 v7 4294967295)) :: .v (.int .u64 (bitI .or .u64 v9 v10)) :: .junk :: .v (.int .u64 v12) :: .v (.int .u64 (bitI .and .u64 v11 4294967295)) :: .v (.int .u64 v15) :: .junk :: .junk :: .junk :: .junk :: .junk :: .junk :: .junk :: .junk :: .junk :: .junk :: .junk :: .junk :: .junk :: .junk :: .junk :: .junk :: .junk :: .junk :: .junk :: .junk :: .junk :: .junk :: .junk :: .junk :: .junk :: .junk :: .junk :: .junk :: .junk :: .junk :: .junk :: .junk :: .junk :: .junk :: .junk :: .junk :: .junk :: .junk :: .junk :: .junk :: .junk :: .junk :: .junk :: .junk :: .junk :: .junk :: .junk :: .junk :: .junk :: .junk :: .junk :: .junk :: .junk :: .junk :: .junk :: .junk :: .junk :: .junk :: .junk :: .junk :: .junk :: .junk :: .junk :: .junk :: .junk :: .junk :: .junk :: .junk :: .junk :: .junk :: .junk :: .junk :: .junk :: .junk :: .junk :: .junk :: .junk :: .junk :: .junk :: .junk :: .junk :: .junk :: .junk :: .junk :: .junk :: .junk :: .junk :: .junk :: .junk :: .junk :: .junk :: .junk :: .junk :: .junk :: .junk :: .junk :: .junk :: .junk :: .junk :: .junk :: .junk :: .junk :: .junk :: .junk :: .junk :: .junk :: .junk :: .junk :: .junk :: .junk :: .junk :: .junk :: .junk :: .junk :: .junk :: .junk :: .junk :: .junk :: .junk :: [],[]⟩)) ?_ ?_ ?_ ?_
            · rintro ⟨v13,v14⟩ v0 hr
              dsimp only [math_bits_Div64_l1] at hr
              try dsimp only
              refine wa_ T (g:=?_)
              rcases ifs hr with ⟨h17,hr⟩|⟨h17,hr⟩
              · have T:=an h17 T
                refine wa_ T (g:=?_)
                rcases ifs hr with ⟨h18,hr⟩|⟨h18,hr⟩
                · have T:=an h18 T
                  refine wa_ T (g:=?_)
                  cases hr
                  refine ⟨rfl,?_⟩
                  exact wk_ T [] rfl .nil
                · have T:=an h18 T
                  refine wa_ T (g:=?_)
                  cases hr
                  refine ⟨rfl,?_⟩
                  exact wk_ T [] rfl .nil
              · have T:=an h17 T
                refine wa_ T (g:=?_)
                rcases ifs hr with ⟨h19,hr⟩|⟨h19,hr⟩
                · have T:=an h19 T
                  refine wa_ T (g:=?_)
                  rcases ifs hr with ⟨h20,hr⟩|⟨h20,hr⟩
                  · have T:=an h20 T
                    refine wa_ T (g:=?_)
                    cases hr
                    refine ⟨rfl,?_⟩
                    exact wk_ T [] rfl .nil
                  · have T:=an h20 T
                    refine wa_ T (g:=?_)
                    cases hr
                    refine ⟨rfl,?_⟩
                    exact wk_ T [] rfl .nil
                · have T:=an h19 T
                  refine wa_ T (g:=?_)
                  cases hr
                  refine ⟨rfl,?_⟩
                  exact wk_ T [] rfl .nil
            · intro e h;cases h
            · try dsimp only
              refine wa_ T (g:=?_)
              obtain ⟨v20,h30,hr⟩:=bs hr
              refine TX.loopE (step:=math_bits_Div64_l2 v7 v8 v11) (x:=((IntKind.u64.wrap ((IntKind.u64.wrap ((IntKind.u64.wrap ((IntKind.u64.wrap ((bitI .or .u64 v9 v10) * 4294967296)) + v12)) - (IntKind.u64.wrap (v16 * v7)))) - (IntKind.u64.wrap ((IntKind.u64.wrap ((IntKind.u64.wrap ((IntKind.u64.wrap ((IntKind.u64.wrap ((bitI .or .u64 v9 v10) * 4294967296)) + v12)) - (IntKind.u64.wrap (v16 * v7)))).tdiv v8)) * v8)))),(IntKind.u64.wrap ((IntKind.u64.wrap ((IntKind.u64.wrap ((IntKind.u64.wrap ((bitI .or .u64 v9 v10) * 4294967296)) + v12)) - (IntKind.u64.wrap (v16 * v7)))).tdiv v8)))) h30 (fun (v17,v18)=>⟨.junk :: .junk :: .v (.int .u64 v7) :: .junk :: .junk :: .junk :: .junk :: .junk :: .v (.int .u64 (IntKind.u64.wrap v6)) :: .v (.int .u64 v8) :: .v (.int .u64 (bitI .and .u64 v7 4294967295)) :: .junk :: .junk :: .junk :: .v (.int .u64 (bitI .and .u64 v11 4294967295)) :: .v (.int .u64 v16) :: .v (.int .u64 v17) :: .v (.int .u64 (IntKind.u64.wrap ((IntKind.u64.wrap ((IntKind.u64.wrap ((bitI .or .u64 v9 v10) * 4294967296)) + v12)) - (IntKind.u64.wrap (v16 * v7))))) :: .v (.int .u64 v18) :: .junk :: .junk :: .junk :: .junk :: .junk :: .junk :: .junk :: .junk :: .junk :: .junk :: .junk :: .junk :: .junk :: .junk :: .junk :: .junk :: .junk :: .junk :: .junk :: .junk :: .junk :: .junk :: .junk :: .junk :: .junk :: .junk :: .junk :: .junk :: .junk :: .junk :: .junk :: .junk :: .junk :: .junk :: .junk :: .junk :: .junk :: .junk :: .junk :: .junk :: .junk :: .junk :: .junk :: .junk :: .junk :: .junk :: .junk :: .junk :: .junk :: .junk :: .junk :: .junk :: .junk :: .junk :: .junk :: .junk :: .junk :: .junk :: .junk :: .junk :: .junk :: .junk :: .junk :: .junk :: .junk :: .junk :: .junk :: .junk :: .junk :: .junk :: .junk :: .junk :: .junk :: .junk :: .junk :: .junk :: .junk :: .junk :: .junk :: .junk :: .junk :: .junk :: .junk :: .junk :: .junk :: .junk :: .junk :: .junk :: .junk :: .junk :: .junk :: .junk :: .junk :: .junk :: .junk :: .junk :: .junk :: .junk :: .junk :: .junk :: .junk :: .junk :: .junk :: .junk :: .junk :: .junk :: .junk :: .junk :: .junk :: .junk :: .junk :: .junk :: .junk :: .junk :: .junk :: .junk :: [],[]⟩) (fun v19=>(.exit 2,⟨.junk :: .junk :: .v (.int .u64 v7) :: .junk :: .junk :: .junk :: .junk :: .junk :: .v (.int .u64 (IntKind.u64.wrap v6)) :: .junk :: .junk :: .junk :: .junk :: .junk :: .v (.int .u64 (bitI .and .u64 v11 4294967295)) :: .v (.int .u64 v16) :: .junk :: .v (.int .u64 (IntKind.u64.wrap ((IntKind.u64.wrap ((IntKind.u64.wrap ((bitI .or .u64 v9 v10) * 4294967296)) + v12)) - (IntKind.u64.wrap (v16 * v7))))) :: .v (.int .u64 v19) :: .junk :: .junk :: .junk :: .junk :: .junk :: .junk :: .junk :: .junk :: .junk :: .junk :: .junk :: .junk :: .junk :: .junk :: .junk :: .junk :: .junk :: .junk :: .junk :: .junk :: .junk :: .junk :: .junk :: .junk :: .junk :: .junk :: .junk :: .junk :: .junk :: .junk :: .junk :: .junk :: .junk :: .junk :: .junk :: .junk :: .junk :: .junk :: .junk :: .junk :: .junk :: .junk :: .junk :: .junk :: .junk :: .junk :: .junk :: .junk :: .junk :: .junk :: .junk :: .junk :: .junk :: .junk :: .junk :: .junk :: .junk :: .junk :: .junk :: .junk :: .junk :: .junk :: .junk :: .junk :: .junk :: .junk :: .junk :: .junk :: .junk :: .junk :: .junk :: .junk :: .junk :: .junk :: .junk :: .junk :: .junk :: .junk :: .junk :: .junk :: .junk :: .junk :: .junk :: .junk :: .junk :: .junk :: .junk :: .junk :: .junk :: .junk :: .junk :: .junk :: .junk :: .junk :: .junk :: .junk :: .junk :: .junk :: .junk :: .junk :: .junk :: .junk :: .junk :: .junk :: .junk :: .junk :: .junk :: .junk :: .junk :: .junk :: .junk :: .junk :: .junk :: .junk :: .junk :: .junk :: [],[]⟩)) ?_ ?_ ?_ ?_
              · rintro ⟨v17,v18⟩ v0 hr
                dsimp only [math_bits_Div64_l2] at hr
                try dsimp only
                refine wa_ T (g:=?_)
                rcases ifs hr with ⟨h26,hr⟩|⟨h26,hr⟩
                · have T:=an h26 T
                  refine wa_ T (g:=?_)
                  rcases ifs hr with ⟨h27,hr⟩|⟨h27,hr⟩
                  · have T:=an h27 T
                    refine wa_ T (g:=?_)
                    cases hr
                    refine ⟨rfl,?_⟩
                    exact wk_ T [] rfl .nil
                  · have T:=an h27 T
                    refine wa_ T (g:=?_)
                    cases hr
                    refine ⟨rfl,?_⟩
                    exact wk_ T [] rfl .nil
                · have T:=an h26 T
                  refine wa_ T (g:=?_)
                  rcases ifs hr with ⟨h28,hr⟩|⟨h28,hr⟩
                  · have T:=an h28 T
                    refine wa_ T (g:=?_)
                    rcases ifs hr with ⟨h29,hr⟩|⟨h29,hr⟩
                    · have T:=an h29 T
                      refine wa_ T (g:=?_)
                      cases hr
                      refine ⟨rfl,?_⟩
                      exact wk_ T [] rfl .nil
                    · have T:=an h29 T
                      refine wa_ T (g:=?_)
                      cases hr
                      refine ⟨rfl,?_⟩
                      exact wk_ T [] rfl .nil
                  · have T:=an h28 T
                    refine wa_ T (g:=?_)
                    cases hr
                    refine ⟨rfl,?_⟩
                    exact wk_ T [] rfl .nil
              · intro e h;cases h
              · try dsimp only
                refine wa_ T (g:=?_)
                obtain ⟨v21,h31,hr⟩:=bs hr
                apply TO.pop1 (wn T) (pop_shift rfl rfl (by decide) (h31))
                repeat exact sd T
                refine wa_ T (g:=?_)
                cases hr
                refine ⟨.inr rfl,_,(ry T),?_⟩
                exact wk_ T [] rfl .nil
              · try dsimp only
                exact wk_ T [] rfl .nil
            · try dsimp only
              exact wk_ T [] rfl .nil
  rfl

end Go.Rex

namespace Go.Rex
open Go.Proofs
open Go Go.Rex Go.RowKit
set_option maxRecDepth 100000
set_option maxHeartbeats 200000
def y24:=an @ag138 <| an @fd140_0 <| an @fd140_1 <| an @un138 <| @un3
theorem figure_wide_over_spec {v1 : Int} {v2 : Int} {v3 : Int} {v4 : Int} {v5 : Int} (hr : figure_wide_over v1 v2 v3 = some (v4,v5)) : Spec (lim Tryz.prog) 117 [.agg [.v (.int .u64 v1),.v (.int .u64 v2)],.v (.int .i64 v3)] ⟨[.tuple [.v (.int .i64 v4),.v (.int .i64 v5)]],[]⟩:=by
  unfold figure_wide_over at hr
  have T:=y24
  apply Spec.fn Tryz.func117 rfl
  focus (simp [Tryz.f117]<;>exact rfl)
  focus
    refine wB T (g:=?_)
    apply TO.pop1 (wn T) (cvt_int_int un3 un138 rfl)
    repeat exact sd T
    refine wa_ T (g:=?_)
    obtain ⟨⟨v6,v7⟩,h1,hr⟩:=bs hr
    try dsimp only at hr
    apply TO.cal (wn T) rfl goFn131 (math_bits_Div64_spec h1) rfl rfl rfl
    repeat exact sd T
    refine wa_ T (g:=?_)
    apply TO.pop1 (wn T) (cvt_int_int un138 un3 rfl)
    repeat exact sd T
    refine wa_ T (g:=?_)
    apply TO.pop1 (wn T) (cvt_int_int un138 un3 rfl)
    repeat exact sd T
    refine wa_ T (g:=?_)
    rcases ifs hr with ⟨h2,hr⟩|⟨h2,hr⟩
    · have T:=an h2 T
      refine wa_ T (g:=?_)
      cases hr
      refine ⟨.inr rfl,_,(ry T),?_⟩
      exact wk_ T [] rfl .nil
    · have T:=an h2 T
      refine wa_ T (g:=?_)
      cases hr
      refine ⟨.inr rfl,_,(ry T),?_⟩
      exact wk_ T [] rfl .nil
  rfl

end Go.Rex

namespace Go.Rex
open Go.Proofs
open Go Go.Rex Go.RowKit
set_option maxRecDepth 100000
set_option maxHeartbeats 200000
theorem figure_down_spec {v1 : Int} {v2 : Int} {v3 : Int} (hr : figure_down v1 v2 = some (v3)) : Spec (lim Tryz.prog) 114 [.v (.int .i64 v1),.v (.int .i64 v2)] ⟨[.v (.int .i64 v3)],[]⟩:=by
  unfold figure_down at hr
  have T:=trivial
  apply Spec.fn Tryz.func114 rfl
  focus (simp [Tryz.f114]<;>exact rfl)
  focus
    refine wa_ T (g:=?_)
    by_cases h1 : v2 = 0
    · rw [if_pos h1] at hr
      cases hr
    · rw [if_neg h1] at hr
      have T:=an h1 T
      refine wa_ T (g:=?_)
      cases hr
      refine ⟨.inr rfl,_,(ry T),?_⟩
      exact wr [] rfl .nil
  rfl

end Go.Rex

namespace Go.Rex
open Go.Proofs
open Go Go.Rex Go.RowKit
set_option maxRecDepth 100000
set_option maxHeartbeats 200000
theorem figure_up_spec {v1 : Int} {v2 : Int} {v3 : Int} (hr : figure_up v1 v2 = some (v3)) : Spec (lim Tryz.prog) 100 [.v (.int .i64 v1),.v (.int .i64 v2)] ⟨[.v (.int .i64 v3)],[]⟩:=by
  unfold figure_up at hr
  have T:=trivial
  apply Spec.fn Tryz.func100 rfl
  focus (simp [Tryz.f100]<;>exact rfl)
  focus
    refine wa_ T (g:=?_)
    by_cases h1 : v2 = 0
    · rw [if_pos h1] at hr
      cases hr
    · rw [if_neg h1] at hr
      have T:=an h1 T
      refine wa_ T (g:=?_)
      cases hr
      refine ⟨.inr rfl,_,(ry T),?_⟩
      exact wr [] rfl .nil
  rfl

end Go.Rex

namespace Go.Rex
open Go.Proofs
open Go Go.Rex Go.RowKit
set_option maxRecDepth 100000
set_option maxHeartbeats 200000
def y25:=an @ag111 <| an @ag3 <| an @cs111 <| an @fd106_0 <| an @fd111_0 <| an @fd24_0 <| an @fd26_0 <| an @fd45_0 <| an @fd45_1 <| an @ok111 <| @zc111
theorem figure_heard_time_spec {v1 : Int} {v2 : (List Nat)} {v3 : Int} {v4 : Int} {v5 : Int} {v6 : Int} {v7 : Int} {v8 : Int} (hr : figure_heard_time v1 v2 v3 v4 v5 v6 = some (v7,v8)) : Spec (lim Tryz.prog) 109 [.agg [.v (.int .i64 v1),.list 1 (v2.map e_f),.v (.int .i64 v3),.v (.int .i64 v4)],.agg [.v (.int .i64 v5),.v (.int .i64 v6)]] ⟨[.agg [.v (.int .i64 v7),.v (.int .i64 v8)]],[]⟩:=by
  unfold figure_heard_time at hr
  have T:=an y25 <| @e_f.eq_1
  apply Spec.fn Tryz.func109 rfl
  focus (simp [Tryz.f109]<;>exact rfl)
  focus
    refine wB T (g:=?_)
    obtain ⟨⟨v9,v10⟩,h1,hr⟩:=bs hr
    try dsimp only at hr
    apply TO.cal (wn T) rfl goFn111 (figure_ends_times_spec h1) rfl rfl rfl
    repeat exact sd T
    refine wA T (g:=?_)
    obtain ⟨v11,h2,hr⟩:=bs hr
    apply TD.cal (wn T) rfl goFn114 (figure_down_spec h2) rfl rfl rfl
    repeat exact sd T
    refine wA T (g:=?_)
    obtain ⟨v12,h3,hr⟩:=bs hr
    apply TD.cal (wn T) rfl goFn100 (figure_up_spec h3) rfl rfl rfl
    repeat exact sd T
    refine wa_ T (g:=?_)
    obtain ⟨⟨v13,v14⟩,h4,hr⟩:=bs hr
    try dsimp only at hr
    apply TD.cal (wn T) rfl goFn102 (figure_between_spec h4) rfl rfl rfl
    repeat exact sd T
    refine wa_ T (g:=?_)
    cases hr
    refine ⟨.inr rfl,_,(ry T),?_⟩
    exact wr [] rfl .nil
  rfl

end Go.Rex

namespace Go.Rex
open Go.Proofs
open Go Go.Rex Go.RowKit
set_option maxRecDepth 100000
set_option maxHeartbeats 1000000
def y26:=an @ag106 <| an @ag111 <| an @ag3 <| an @ag45 <| an @cs106 <| an @cs111 <| an @cs29 <| an @cs45 <| an @fd106_0 <| an @fd111_0 <| an @fd24_0 <| an @fd26_0 <| an @fd26_2 <| an @fd45_0 <| an @fd45_1 <| an @ok106 <| an @ok111 <| an @ok45 <| an @so136 <| an @st111 <| an @zc111 <| @zc29
theorem figure_heard_centre_spec {v1 : Int} {v2 : (List Nat)} {v3 : Int} {v4 : Int} {v5 : Int} {v6 : Int} {v7 : Int} (hr : figure_heard_centre v1 v2 v3 v4 = some (v5,v6,v7)) : Spec (lim Tryz.prog) 92 [.agg [.v (.int .i64 v1),.list 1 (v2.map e_f),.v (.int .i64 v3),.v (.int .i64 v4)]] ⟨[.tuple [.agg [.v (.int .i64 v5),.v (.int .i64 v6)],.v (.int .i64 v7)]],[]⟩:=by
  unfold figure_heard_centre at hr
  have T:=an y26 <| an @e_f.eq_1 <| @e_i.eq_1
  apply Spec.fn Tryz.func92 rfl
  focus (simp [Tryz.f92]<;>exact rfl)
  focus
    refine wB T (g:=?_)
    obtain ⟨⟨v8,v9⟩,h1,hr⟩:=bs hr
    try dsimp only at hr
    apply TD.cal (wn T) rfl goFn87 (figure_heard_all_spec h1) rfl rfl rfl
    repeat exact sd T
    refine wA T (g:=?_)
    obtain ⟨⟨v10,v11⟩,h2,hr⟩:=bs hr
    try dsimp only at hr
    apply TD.cal (wn T) rfl goFn116 (figure_heard_moment_spec h2) rfl rfl rfl
    repeat exact sd T
    refine wA T (g:=?_)
    obtain ⟨v12,h3,hr⟩:=bs hr
    apply TD.cal (wn T) rfl goFn59 (figure_refuse_spec h3) rfl rfl rfl
    repeat exact sd T
    refine wA T (g:=?_)
    obtain ⟨v13,h4,hr⟩:=bs hr
    apply TD.cal (wn T) rfl goFn59 (figure_refuse_spec h4) rfl rfl rfl
    repeat exact sd T
    refine wa_ T (g:=?_)
    apply TD.bm e_i ([v12,v13] : List Int) (wn T) rfl (by simp only [zz,y26,e_f,e_i,Nat.reduceAdd,Nat.reduceMul,Nat.reduceLeDiff,Nat.reduceEqDiff,tslice,tparts];exact rfl) rfl
    repeat exact sd T
    refine wa_ T (g:=?_)
    obtain ⟨v14,h5,hr⟩:=bs hr
    apply TD.cal (wn T) rfl goFn57 (figure_firstError_spec h5) rfl rfl rfl
    repeat exact sd T
    refine wa_ T (g:=?_)
    rcases ifs hr with ⟨h6,hr⟩|⟨h6,hr⟩
    · have T:=an h6 T
      refine wa_ T (g:=?_)
      cases hr
      refine ⟨.inr rfl,_,(ry T),?_⟩
      exact wk_ T [] rfl .nil
    · have T:=an h6 T
      refine wA T (g:=?_)
      obtain ⟨⟨v15,v16⟩,h7,hr⟩:=bs hr
      try dsimp only at hr
      apply TD.cal (wn T) rfl goFn104 (figure_product_spec h7) rfl rfl rfl
      repeat exact sd T
      refine wA T (g:=?_)
      obtain ⟨⟨v17,v18⟩,h8,hr⟩:=bs hr
      try dsimp only at hr
      apply TD.cal (wn T) rfl goFn117 (figure_wide_over_spec h8) rfl rfl rfl
      repeat exact sd T
      refine wA T (g:=?_)
      obtain ⟨⟨v19,v20⟩,h9,hr⟩:=bs hr
      try dsimp only at hr
      apply TD.cal (wn T) rfl goFn104 (figure_product_spec h9) rfl rfl rfl
      repeat exact sd T
      refine wA T (g:=?_)
      obtain ⟨⟨v21,v22⟩,h10,hr⟩:=bs hr
      try dsimp only at hr
      apply TD.cal (wn T) rfl goFn117 (figure_wide_over_spec h10) rfl rfl rfl
      repeat exact sd T
      refine wA T (g:=?_)
      obtain ⟨v23,h11,hr⟩:=bs hr
      apply TO.cal (wn T) rfl goFn71 (figure_heard_count_spec h11) rfl rfl rfl
      repeat exact sd T
      refine wA T (g:=?_)
      obtain ⟨⟨v24,v25⟩,h12,hr⟩:=bs hr
      try dsimp only at hr
      apply TD.cal (wn T) rfl goFn102 (figure_between_spec h12) rfl rfl rfl
      repeat exact sd T
      refine wa_ T (g:=?_)
      obtain ⟨⟨v26,v27⟩,h13,hr⟩:=bs hr
      try dsimp only at hr
      apply TD.cal (wn T) rfl goFn109 (figure_heard_time_spec h13) rfl rfl rfl
      repeat exact sd T
      refine wa_ T (g:=?_)
      apply TD.pop1 (wn T) (pop_min rfl rfl)
      repeat exact sd T
      refine wa_ T (g:=?_)
      obtain ⟨⟨v28,v29⟩,h14,hr⟩:=bs hr
      try dsimp only at hr
      apply TD.cal (wn T) rfl goFn102 (figure_between_spec h14) rfl rfl rfl
      repeat exact sd T
      refine wa_ T (g:=?_)
      cases hr
      refine ⟨.inr rfl,_,(ry T),?_⟩
      exact wk_ T [] rfl .nil
  rfl

end Go.Rex

namespace Go.Rex
open Go.Proofs
open Go Go.Rex Go.RowKit
set_option maxRecDepth 100000
set_option maxHeartbeats 200000
def y27:=an @ag106 <| an @ag26 <| an @ag45 <| an @cs106 <| an @cs111 <| an @cs26 <| an @cs45 <| an @fd111_0 <| an @ok106 <| an @ok111 <| an @ok26 <| an @ok45 <| an @st45 <| an @zc106 <| an @zc111 <| @zc45
theorem figure_Centre_spec {v1 : Int} {v2 : (List Nat)} {v3 : Int} {v4 : Int} {v5 : Int} {v6 : Int} {v7 : Int} (hr : figure_Centre v1 v2 v3 v4 = some (v5,v6,v7)) : Spec (lim Tryz.prog) 50 [.agg [.v (.int .i64 v1),.list 1 (v2.map e_f),.v (.int .i64 v3),.v (.int .i64 v4)]] ⟨[.tuple [.agg [.v (.int .i64 v5),.v (.int .i64 v6)],.v (.int .i64 v7)]],[]⟩:=by
  unfold figure_Centre at hr
  have T:=an y27 <| @e_f.eq_1
  apply Spec.fn Tryz.func50 rfl
  focus (simp [Tryz.f50]<;>exact rfl)
  focus
    refine wB T (g:=?_)
    obtain ⟨⟨v8,v9,v10,v11,v12⟩,h1,hr⟩:=bs hr
    try dsimp only at hr
    apply TO.cal (wn T) rfl goFn68 (figure_hear_spec h1) rfl rfl rfl
    repeat exact sd T
    refine wa_ T (g:=?_)
    rcases ifs hr with ⟨h2,hr⟩|⟨h2,hr⟩
    · have T:=an h2 T
      refine wa_ T (g:=?_)
      cases hr
      refine ⟨.inr rfl,_,(ry T),?_⟩
      exact wk_ T [] rfl .nil
    · have T:=an h2 T
      refine wA T (g:=?_)
      obtain ⟨⟨v13,v14,v15⟩,h3,hr⟩:=bs hr
      try dsimp only at hr
      apply TO.cal (wn T) rfl goFn92 (figure_heard_centre_spec h3) rfl rfl rfl
      repeat exact sd T
      refine wA T (g:=?_)
      cases hr
      refine ⟨.inr rfl,_,(ry T),?_⟩
      exact wk_ T [] rfl .nil
  rfl

end Go.Rex

namespace Go.Rex
open Go.Proofs
open Go Go.Rex Go.RowKit
set_option maxRecDepth 100000
set_option maxHeartbeats 200000
theorem base_Within_spec {v1 : Int} {v2 : Int} {v3 : Int} {v4 : Bool} (hr : base_Within v1 v2 v3 = some (v4)) : Spec (lim Tryz.prog) 28 [.v (.int .i64 v1),.v (.int .i64 v2),.v (.int .i64 v3)] ⟨[.v (.bool v4)],[]⟩:=by
  unfold base_Within at hr
  have T:=trivial
  apply Spec.fn Tryz.func28 rfl
  focus (simp [Tryz.f28]<;>exact rfl)
  focus
    refine wa_ T (g:=?_)
    rcases ifs hr with ⟨h1,hr⟩|⟨h1,hr⟩
    · have T:=an h1 T
      refine wa_ T (g:=?_)
      cases hr
      refine ⟨.inr rfl,_,(ry T),?_⟩
      exact wk_ T [] rfl .nil
    · have T:=an h1 T
      refine wa_ T (g:=?_)
      cases hr
      refine ⟨.inr rfl,_,(ry T),?_⟩
      exact wk_ T [] rfl .nil
  rfl

end Go.Rex

namespace Go.Rex
open Go.Proofs
open Go Go.Rex Go.RowKit
set_option maxRecDepth 100000
set_option maxHeartbeats 200000
theorem ref05_isRate_spec {v1 : Int} {v2 : Bool} (hr : ref05_isRate v1 = some (v2)) : Spec (lim Tryz.prog) 64 [.v (.int .i64 v1)] ⟨[.v (.bool v2)],[]⟩:=by
  unfold ref05_isRate at hr
  have T:=trivial
  apply Spec.fn Tryz.func64 rfl
  focus (simp [Tryz.f64]<;>exact rfl)
  focus
    refine wa_ T (g:=?_)
    obtain ⟨v3,h1,hr⟩:=bs hr
    apply TO.cal (wn T) rfl goFn28 (base_Within_spec h1) rfl rfl rfl
    repeat exact sd T
    refine wa_ T (g:=?_)
    cases hr
    refine ⟨.inr rfl,_,(ry T),?_⟩
    exact wr [] rfl .nil
  rfl

end Go.Rex

namespace Go.Rex
open Go.Proofs
open Go Go.Rex Go.RowKit
set_option maxRecDepth 100000
set_option maxHeartbeats 1000000
def y28:=an @un103 <| @un3
theorem base_IsWhole_spec {v1 : Nat} {v2 : Bool} (hr : base_IsWhole v1 = some (v2)) : Spec (lim Tryz.prog) 65 [.v (.float .f64 v1)] ⟨[.v (.bool v2)],[]⟩:=by
  unfold base_IsWhole at hr
  have T:=y28
  apply Spec.fn Tryz.func65 rfl
  focus (simp [Tryz.f65]<;>exact rfl)
  focus
    refine wa_ T (g:=?_)
    apply TO.pop1 (wn T) (pop_fcmp rfl rfl (by decide))
    repeat exact sd T
    refine wa_ T (g:=?_)
    rcases ifs hr with ⟨h1,hr⟩|⟨h1,hr⟩
    · have T:=an h1 T
      refine wa_ T (g:=?_)
      cases hr
      refine ⟨.inr rfl,_,(ry T),?_⟩
      exact wk_ T [] rfl .nil
    · have T:=an h1 T
      refine wa_ T (g:=?_)
      obtain ⟨v3,h2,hr⟩:=bs hr
      apply TO.pop1 (wn T) (pop_farith rfl rfl (by decide) (h2))
      repeat exact sd T
      refine wa_ T (g:=?_)
      apply TO.pop1 (wn T) (pop_fcmp rfl rfl (by decide))
      repeat exact sd T
      refine wa_ T (g:=?_)
      rcases ifs hr with ⟨h3,hr⟩|⟨h3,hr⟩
      · have T:=an h3 T
        refine wa_ T (g:=?_)
        cases hr
        refine ⟨.inr rfl,_,(ry T),?_⟩
        exact wk_ T [] rfl .nil
      · have T:=an h3 T
        refine wa_ T (g:=?_)
        apply TO.pop1 (wn T) (pop_fcmp rfl rfl (by decide))
        repeat exact sd T
        refine wa_ T (g:=?_)
        rcases ifs hr with ⟨h4,hr⟩|⟨h4,hr⟩
        · have T:=an h4 T
          refine wa_ T (g:=?_)
          apply TO.pop1 (wn T) (pop_fcmp rfl rfl (by decide))
          repeat exact sd T
          refine wa_ T (g:=?_)
          apply TO.pop1 (wn T) (pop_not rfl)
          repeat exact sd T
          refine wa_ T (g:=?_)
          rcases ifs hr with ⟨h5,hr⟩|⟨h5,hr⟩
          · have T:=an h5 T
            refine wa_ T (g:=?_)
            obtain ⟨v4,h6,hr⟩:=bs hr
            apply TO.pop1 (wn T) (cvt_float_int un103 un3 rfl h6)
            repeat exact sd T
            refine wa_ T (g:=?_)
            apply TO.pop1 (wn T) (cvt_int_float un3 un103 rfl)
            repeat exact sd T
            refine wa_ T (g:=?_)
            apply TO.pop1 (wn T) (pop_fcmp rfl rfl (by decide))
            repeat exact sd T
            refine wa_ T (g:=?_)
            cases hr
            refine ⟨.inr rfl,_,(ry T),?_⟩
            exact wk_ T [] rfl .nil
          · have T:=an h5 T
            refine wa_ T (g:=?_)
            cases hr
            refine ⟨.inr rfl,_,(ry T),?_⟩
            exact wk_ T [] rfl .nil
        · have T:=an h4 T
          refine wa_ T (g:=?_)
          apply TO.pop1 (wn T) (pop_not rfl)
          repeat exact sd T
          refine wa_ T (g:=?_)
          cases hr
          refine ⟨.inr rfl,_,(ry T),?_⟩
          exact wk_ T [] rfl .nil
  rfl

end Go.Rex

namespace Go.Rex
open Go.Proofs
open Go Go.Rex Go.RowKit
set_option maxRecDepth 100000
set_option maxHeartbeats 1000000
def y29:=an @ag22 <| an @ag3 <| an @ag99 <| an @cs99 <| an @fd24_0 <| an @fd24_1 <| an @ok99 <| an @so22 <| an @un103 <| an @un99 <| @wi64_0a1
theorem ref05_CheckResponse_spec {v1 : Int} {v2 : (List Nat)} {v3 : Int} {v4 : Int} (hr : ref05_CheckResponse v1 v2 = some (v3,v4)) : Spec (lim Tryz.prog) 18 [.agg [.v (.int .i64 v1),.list 1 (v2.map e_f)]] ⟨[.tuple [.v (.int .i64 v3),.v (.int .i64 v4)]],[]⟩:=by
  unfold ref05_CheckResponse at hr
  have T:=an y29 <| @e_f.eq_1
  apply Spec.fn Tryz.func18 rfl
  focus (simp [Tryz.f18]<;>exact rfl)
  focus
    refine wB T (g:=?_)
    obtain ⟨v5,h1,hr⟩:=bs hr
    apply TO.cal (wn T) rfl goFn64 (ref05_isRate_spec h1) rfl rfl rfl
    repeat exact sd T
    refine wa_ T (g:=?_)
    apply TO.pop1 (wn T) (pop_not rfl)
    repeat exact sd T
    refine wa_ T (g:=?_)
    rcases ifs hr with ⟨h2,hr⟩|⟨h2,hr⟩
    · have T:=an h2 T
      refine wC T (g:=?_)
      rcases ifs hr with ⟨h3,hr⟩|⟨h3,hr⟩
      · have T:=an h3 T
        refine wa_ T (g:=?_)
        cases hr
        refine ⟨.inr rfl,_,(ry T),?_⟩
        exact wk_ T [] rfl .nil
      · have T:=an h3 T
        refine wC T (g:=?_)
        rcases ifs hr with ⟨h4,hr⟩|⟨h4,hr⟩
        · have T:=an h4 T
          refine wa_ T (g:=?_)
          cases hr
          refine ⟨.inr rfl,_,(ry T),?_⟩
          exact wk_ T [] rfl .nil
        · have T:=an h4 T
          refine wa_ T (g:=?_)
          obtain ⟨v15,h19,hr⟩:=bs hr
          refine TX.loopE (step:=ref05_CheckResponse_l1 v2) (x:=0) h19 (fun v6=>⟨.junk :: .fptr true [.v (.int .i64 v1),.list 1 (v2.map e_f)] 0 :: .junk :: .junk :: .v (.int .i64 v6) :: .junk :: .junk :: .junk :: .junk :: .junk :: .junk :: .junk :: .junk :: .junk :: .junk :: .junk :: .junk :: .junk :: .junk :: .junk :: .junk :: .junk :: .junk :: .junk :: .junk :: .junk :: .junk :: .junk :: .junk :: .junk :: .junk :: .junk :: .junk :: .junk :: .junk :: .junk :: .junk :: .junk :: .junk :: .junk :: .junk :: .junk :: [],[]⟩) (fun e=>match e with|(.inl (v10,v11))=>(.ret,⟨.junk :: .junk :: .v (.int .i64 v10) :: .v (.int .i64 v11) :: .junk :: .junk :: .junk :: .junk :: .junk :: .junk :: .junk :: .junk :: .junk :: .junk :: .junk :: .junk :: .junk :: .junk :: .junk :: .junk :: .junk :: .junk :: .junk :: .junk :: .junk :: .junk :: .junk :: .junk :: .junk :: .junk :: .junk :: .junk :: .junk :: .junk :: .junk :: .junk :: .junk :: .junk :: .junk :: .junk :: .junk :: .junk :: [],[]⟩)|(.inr _)=>(.exit 0,⟨.junk :: .junk :: .junk :: .junk :: .junk :: .junk :: .junk :: .junk :: .junk :: .junk :: .junk :: .junk :: .junk :: .junk :: .junk :: .junk :: .junk :: .junk :: .junk :: .junk :: .junk :: .junk :: .junk :: .junk :: .junk :: .junk :: .junk :: .junk :: .junk :: .junk :: .junk :: .junk :: .junk :: .junk :: .junk :: .junk :: .junk :: .junk :: .junk :: .junk :: .junk :: .junk :: [],[]⟩)) ?_ ?_ ?_ ?_
          · rintro v6 v0 hr
            dsimp only [ref05_CheckResponse_l1] at hr
            try dsimp only
            refine wC T (g:=?_)
            rcases ifs hr with ⟨h12,hr⟩|⟨h12,hr⟩
            · have T:=an h12 T
              refine wA T (g:=?_)
              obtain ⟨v12,h13,hr⟩:=bs hr
              have T:=an (gx e_f h13) T
              refine wA T (g:=?_)
              obtain ⟨v13,h14,hr⟩:=bs hr
              apply TO.pop1 (wn T) (cvt_float_float un99 un103 rfl h14)
              repeat exact sd T
              refine wa_ T (g:=?_)
              obtain ⟨v14,h15,hr⟩:=bs hr
              apply TO.cal (wn T) rfl goFn65 (base_IsWhole_spec h15) rfl rfl rfl
              repeat exact sd T
              refine wa_ T (g:=?_)
              apply TO.pop1 (wn T) (pop_not rfl)
              repeat exact sd T
              refine wa_ T (g:=?_)
              rcases ifs hr with ⟨h16,hr⟩|⟨h16,hr⟩
              · have T:=an h16 T
                refine wa_ T (g:=?_)
                apply TO.pop1 (wn T) (pop_fcmp rfl rfl (by decide))
                repeat exact sd T
                refine wa_ T (g:=?_)
                rcases ifs hr with ⟨h17,hr⟩|⟨h17,hr⟩
                · have T:=an h17 T
                  refine wa_ T (g:=?_)
                  cases hr
                  refine ⟨rfl,?_⟩
                  exact wk_ T [] rfl .nil
                · have T:=an h17 T
                  refine wa_ T (g:=?_)
                  apply TO.pop1 (wn T) (pop_fcmp rfl rfl (by decide))
                  repeat exact sd T
                  refine wa_ T (g:=?_)
                  rcases ifs hr with ⟨h18,hr⟩|⟨h18,hr⟩
                  · have T:=an h18 T
                    refine wa_ T (g:=?_)
                    cases hr
                    refine ⟨rfl,?_⟩
                    exact wk_ T [] rfl .nil
                  · have T:=an h18 T
                    refine wa_ T (g:=?_)
                    cases hr
                    refine ⟨rfl,?_⟩
                    exact wk_ T [] rfl .nil
              · have T:=an h16 T
                refine wa_ T (g:=?_)
                cases hr
                refine ⟨rfl,?_⟩
                exact wk_ T [] rfl .nil
            · have T:=an h12 T
              refine wa_ T (g:=?_)
              cases hr
              refine ⟨rfl,?_⟩
              exact wk_ T [] rfl .nil
          · intro e h;rcases e with _|e<;>cases h
          · try dsimp only
            rcases v15 with ⟨v16,v17⟩|_
            · try dsimp only at hr
              try dsimp only
              refine wa_ T (g:=?_)
              cases hr
              refine ⟨.inr rfl,_,(ry T),?_⟩
              exact wk_ T [] rfl .nil
            · try dsimp only at hr
              try dsimp only
              refine wa_ T (g:=?_)
              cases hr
              refine ⟨.inr rfl,_,(ry T),?_⟩
              exact wk_ T [] rfl .nil
          · try dsimp only
            exact wk_ T [] rfl .nil
    · have T:=an h2 T
      refine wa_ T (g:=?_)
      cases hr
      refine ⟨.inr rfl,_,(ry T),?_⟩
      exact wk_ T [] rfl .nil
  rfl

end Go.Rex

namespace Go.Rex
open Go.Proofs
open Go Go.Rex Go.RowKit
set_option maxRecDepth 100000
set_option maxHeartbeats 200000
def y30:=an @ag24 <| an @ag3 <| an @cs24 <| an @fd26_0 <| an @fd26_1 <| an @fd26_2 <| @ok24
theorem ref05_CheckAsk_spec {v1 : Int} {v2 : (List Nat)} {v3 : Int} {v4 : Int} {v5 : Int} {v6 : Int} (hr : ref05_CheckAsk v1 v2 v3 v4 = some (v5,v6)) : Spec (lim Tryz.prog) 19 [.agg [.v (.int .i64 v1),.list 1 (v2.map e_f),.v (.int .i64 v3),.v (.int .i64 v4)]] ⟨[.tuple [.v (.int .i64 v5),.v (.int .i64 v6)]],[]⟩:=by
  unfold ref05_CheckAsk at hr
  have T:=an y30 <| @e_f.eq_1
  apply Spec.fn Tryz.func19 rfl
  focus (simp [Tryz.f19]<;>exact rfl)
  focus
    refine wB T (g:=?_)
    obtain ⟨⟨v7,v8⟩,h1,hr⟩:=bs hr
    try dsimp only at hr
    apply TO.cal (wn T) rfl goFn18 (ref05_CheckResponse_spec h1) rfl rfl rfl
    repeat exact sd T
    refine wa_ T (g:=?_)
    rcases ifs hr with ⟨h2,hr⟩|⟨h2,hr⟩
    · have T:=an h2 T
      refine wa_ T (g:=?_)
      cases hr
      refine ⟨.inr rfl,_,(ry T),?_⟩
      exact wk_ T [] rfl .nil
    · have T:=an h2 T
      refine wA T (g:=?_)
      obtain ⟨v9,h3,hr⟩:=bs hr
      apply TO.cal (wn T) rfl goFn28 (base_Within_spec h3) rfl rfl rfl
      repeat exact sd T
      refine wa_ T (g:=?_)
      apply TO.pop1 (wn T) (pop_not rfl)
      repeat exact sd T
      refine wa_ T (g:=?_)
      rcases ifs hr with ⟨h4,hr⟩|⟨h4,hr⟩
      · have T:=an h4 T
        refine wA T (g:=?_)
        obtain ⟨v10,h5,hr⟩:=bs hr
        apply TO.cal (wn T) rfl goFn28 (base_Within_spec h5) rfl rfl rfl
        repeat exact sd T
        refine wa_ T (g:=?_)
        apply TO.pop1 (wn T) (pop_not rfl)
        repeat exact sd T
        refine wa_ T (g:=?_)
        rcases ifs hr with ⟨h6,hr⟩|⟨h6,hr⟩
        · have T:=an h6 T
          refine wa_ T (g:=?_)
          cases hr
          refine ⟨.inr rfl,_,(ry T),?_⟩
          exact wk_ T [] rfl .nil
        · have T:=an h6 T
          refine wa_ T (g:=?_)
          cases hr
          refine ⟨.inr rfl,_,(ry T),?_⟩
          exact wk_ T [] rfl .nil
      · have T:=an h4 T
        refine wa_ T (g:=?_)
        cases hr
        refine ⟨.inr rfl,_,(ry T),?_⟩
        exact wk_ T [] rfl .nil
  rfl

end Go.Rex

namespace Go.Rex
open Go.Proofs
open Go Go.Rex Go.RowKit
set_option maxRecDepth 100000
set_option maxHeartbeats 200000
def y31:=an @ag26 <| an @cs26 <| @ok26
theorem ref05_AskErr_spec {v1 : Int} {v2 : (List Nat)} {v3 : Int} {v4 : Int} {v5 : Int} (hr : ref05_AskErr v1 v2 v3 v4 = some (v5)) : Spec (lim Tryz.prog) 26 [.agg [.v (.int .i64 v1),.list 1 (v2.map e_f),.v (.int .i64 v3),.v (.int .i64 v4)]] ⟨[.v (.int .i64 v5)],[]⟩:=by
  unfold ref05_AskErr at hr
  have T:=an y31 <| @e_f.eq_1
  apply Spec.fn Tryz.func26 rfl
  focus (simp [Tryz.f26]<;>exact rfl)
  focus
    refine wB T (g:=?_)
    obtain ⟨⟨v6,v7⟩,h1,hr⟩:=bs hr
    try dsimp only at hr
    apply TO.cal (wn T) rfl goFn19 (ref05_CheckAsk_spec h1) rfl rfl rfl
    repeat exact sd T
    refine wa_ T (g:=?_)
    cases hr
    refine ⟨.inr rfl,_,(ry T),?_⟩
    exact wr [] rfl .nil
  rfl

end Go.Rex

namespace Go.Rex
open Go.Proofs
open Go Go.Rex Go.RowKit
set_option maxRecDepth 100000
set_option maxHeartbeats 200000
theorem base_Size_spec {v1 : Int} {v2 : Int} (hr : base_Size v1 = some (v2)) : Spec (lim Tryz.prog) 103 [.v (.int .i64 v1)] ⟨[.v (.int .i64 v2)],[]⟩:=by
  unfold base_Size at hr
  have T:=trivial
  apply Spec.fn Tryz.func103 rfl
  focus (simp [Tryz.f103]<;>exact rfl)
  focus
    refine wa_ T (g:=?_)
    apply TO.pop1 (wn T) (pop_neg rfl)
    repeat exact sd T
    refine wa_ T (g:=?_)
    apply TO.pop1 (wn T) (pop_max rfl rfl)
    repeat exact sd T
    refine wa_ T (g:=?_)
    cases hr
    refine ⟨.inr rfl,_,(ry T),?_⟩
    exact wr [] rfl .nil
  rfl

end Go.Rex

namespace Go.Rex
open Go.Proofs
open Go Go.Rex Go.RowKit
set_option maxRecDepth 100000
set_option maxHeartbeats 200000
def y32:=an @ag22 <| an @ag3 <| an @ag45 <| an @ag99 <| an @cs45 <| an @cs99 <| an @fd24_1 <| an @fd26_0 <| an @fd26_1 <| an @ok45 <| an @ok99 <| an @so22 <| an @st45 <| an @un3 <| an @un99 <| @zc45
theorem ref05_square_spec {v1 : Int} {v2 : (List Nat)} {v3 : Int} {v4 : Int} {v5 : Int} {v6 : Int} {v7 : Int} (hr : ref05_square v1 v2 v3 v4 v5 = some (v6,v7)) : Spec (lim Tryz.prog) 74 [.agg [.v (.int .i64 v1),.list 1 (v2.map e_f),.v (.int .i64 v3),.v (.int .i64 v4)],.v (.int .i64 v5)] ⟨[.agg [.v (.int .i64 v6),.v (.int .i64 v7)]],[]⟩:=by
  unfold ref05_square at hr
  have T:=an y32 <| @e_f.eq_1
  apply Spec.fn Tryz.func74 rfl
  focus (simp [Tryz.f74]<;>exact rfl)
  focus
    refine wB T (g:=?_)
    obtain ⟨v8,h1,hr⟩:=bs hr
    have T:=an (gx e_f h1) T
    refine wA T (g:=?_)
    obtain ⟨v9,h2,hr⟩:=bs hr
    apply TO.pop1 (wn T) (cvt_float_int un99 un3 rfl h2)
    repeat exact sd T
    refine wa_ T (g:=?_)
    obtain ⟨v10,h3,hr⟩:=bs hr
    apply TO.cal (wn T) rfl goFn103 (base_Size_spec h3) rfl rfl rfl
    repeat exact sd T
    refine wA T (g:=?_)
    apply TD.pop1 (wn T) (pop_max rfl rfl)
    repeat exact sd T
    refine wA T (g:=?_)
    cases hr
    refine ⟨.inr rfl,_,(ry T),?_⟩
    exact wr [] rfl .nil
  rfl

end Go.Rex

namespace Go.Rex
open Go.Proofs
open Go Go.Rex Go.RowKit
set_option maxRecDepth 100000
set_option maxHeartbeats 200000
def y33:=an @ag22 <| an @ag26 <| an @ag3 <| an @ag45 <| an @cs26 <| an @cs3 <| an @cs45 <| an @fd24_1 <| an @fd26_0 <| an @fd26_2 <| an @fd42_0 <| an @fd42_1 <| an @fd45_0 <| an @fd45_1 <| an @ok26 <| an @ok3 <| an @ok45 <| an @so22 <| an @st45 <| @zc45
theorem ref05_EnergyWithin_spec {v1 : Int} {v2 : (List Nat)} {v3 : Int} {v4 : Int} {v5 : Int} {v6 : Int} {v7 : Int} {v8 : Int} (hr : ref05_EnergyWithin v1 v2 v3 v4 v5 v6 = some (v7,v8)) : Spec (lim Tryz.prog) 27 [.agg [.v (.int .i64 v1),.list 1 (v2.map e_f),.v (.int .i64 v3),.v (.int .i64 v4)],.agg [.v (.int .i64 v5),.v (.int .i64 v6)]] ⟨[.agg [.v (.int .i64 v7),.v (.int .i64 v8)]],[]⟩:=by
  unfold ref05_EnergyWithin at hr
  have T:=an y33 <| @e_f.eq_1
  apply Spec.fn Tryz.func27 rfl
  focus (simp [Tryz.f27]<;>exact rfl)
  focus
    refine wB T (g:=?_)
    obtain ⟨⟨v18,v19⟩,h5,hr⟩:=bs hr
    try dsimp only at hr
    refine TX.loopE (step:=ref05_EnergyWithin_l1 v1 v2 v3 v4 v6) (x:=(0,0,v5)) h5 (fun (v9,v10,v11)=>⟨.junk :: .junk :: .fptr true [.v (.int .i64 v1),.list 1 (v2.map e_f),.v (.int .i64 v3),.v (.int .i64 v4)] 0 :: .fptr true [.v (.int .i64 v5),.v (.int .i64 v6)] 0 :: .lptr 0 0 0 :: .lptr 1 0 0 :: .v (.int .i64 v11) :: .junk :: .junk :: .junk :: .junk :: .junk :: .junk :: .junk :: .junk :: .junk :: .junk :: .junk :: .junk :: .junk :: .junk :: .junk :: .junk :: .junk :: .junk :: .junk :: .junk :: .junk :: .junk :: .junk :: .junk :: .junk :: .junk :: .junk :: .junk :: .junk :: .junk :: .junk :: .junk :: .junk :: .junk :: .junk :: .junk :: .junk :: .junk :: [],[.var [.v (.int .i64 0),.v (.int .i64 0)],.var [.v (.int .i64 v9),.v (.int .i64 v10)]]⟩) (fun (v14,v15)=>(.exit 0,⟨.junk :: .junk :: .fptr true [.v (.int .i64 v1),.list 1 (v2.map e_f),.v (.int .i64 v3),.v (.int .i64 v4)] 0 :: .fptr true [.v (.int .i64 v5),.v (.int .i64 v6)] 0 :: .lptr 0 0 0 :: .lptr 1 0 0 :: .junk :: .junk :: .junk :: .junk :: .junk :: .junk :: .junk :: .junk :: .junk :: .junk :: .junk :: .junk :: .junk :: .junk :: .junk :: .junk :: .junk :: .junk :: .junk :: .junk :: .junk :: .junk :: .junk :: .junk :: .junk :: .junk :: .junk :: .junk :: .junk :: .junk :: .junk :: .junk :: .junk :: .junk :: .junk :: .junk :: .junk :: .junk :: .junk :: [],[.var [.v (.int .i64 0),.v (.int .i64 0)],.var [.v (.int .i64 v14),.v (.int .i64 v15)]]⟩)) ?_ ?_ ?_ ?_
    · rintro ⟨v9,v10,v11⟩ v0 hr
      dsimp only [ref05_EnergyWithin_l1] at hr
      try dsimp only
      refine wA T (g:=?_)
      rcases ifs hr with ⟨h3,hr⟩|⟨h3,hr⟩
      · have T:=an h3 T
        refine wA T (g:=?_)
        obtain ⟨⟨v16,v17⟩,h4,hr⟩:=bs hr
        try dsimp only at hr
        apply TO.cal (wn T) rfl goFn74 (ref05_square_spec h4) rfl rfl rfl
        repeat exact sd T
        refine wA T (g:=?_)
        cases hr
        refine ⟨rfl,?_⟩
        exact wk_ T [some 0,some 1] rfl (rv (rv .nil rfl) rfl)
      · have T:=an h3 T
        refine wa_ T (g:=?_)
        cases hr
        refine ⟨rfl,?_⟩
        exact wk_ T [some 0,some 1] rfl (rv (rv .nil rfl) rfl)
    · intro e h;cases h
    · try dsimp only
      refine wC T (g:=?_)
      rcases ifs hr with ⟨h6,hr⟩|⟨h6,hr⟩
      · have T:=an h6 T
        refine wA T (g:=?_)
        cases hr
        refine ⟨.inr rfl,_,(ry T),?_⟩
        exact wk_ T [] rfl .nil
      · have T:=an h6 T
        refine wA T (g:=?_)
        cases hr
        refine ⟨.inr rfl,_,(ry T),?_⟩
        exact wk_ T [] rfl .nil
    · try dsimp only
      exact wr [some 0,some 1] rfl (rv (rv .nil rfl) rfl)
  rfl

end Go.Rex

namespace Go.Rex
open Go.Proofs
open Go Go.Rex Go.RowKit
set_option maxRecDepth 100000
set_option maxHeartbeats 200000
def y34:=an @ag22 <| an @ag26 <| an @ag45 <| an @cs26 <| an @cs45 <| an @fd24_1 <| an @fd26_0 <| an @ok26 <| an @ok45 <| an @so22 <| an @st42 <| an @zc42 <| @zc45
theorem ref05_sum_spec {v1 : Int} {v2 : (List Nat)} {v3 : Int} {v4 : Int} {v5 : Int} {v6 : Int} {v7 : Int} (hr : ref05_sum v1 v2 v3 v4 v5 = some (v6,v7)) : Spec (lim Tryz.prog) 76 [.agg [.v (.int .i64 v1),.list 1 (v2.map e_f),.v (.int .i64 v3),.v (.int .i64 v4)],.v (.int .i64 v5)] ⟨[.agg [.v (.int .i64 v6),.v (.int .i64 v7)]],[]⟩:=by
  unfold ref05_sum at hr
  have T:=an y34 <| @e_f.eq_1
  apply Spec.fn Tryz.func76 rfl
  focus (simp [Tryz.f76]<;>exact rfl)
  focus
    refine wD T (g:=?_)
    obtain ⟨⟨v8,v9⟩,h1,hr⟩:=bs hr
    try dsimp only at hr
    apply TO.cal (wn T) rfl goFn27 (ref05_EnergyWithin_spec h1) rfl rfl rfl
    repeat exact sd T
    refine wa_ T (g:=?_)
    cases hr
    refine ⟨.inr rfl,_,(ry T),?_⟩
    exact wr [] rfl .nil
  rfl

end Go.Rex

namespace Go.Rex
open Go.Proofs
open Go Go.Rex Go.RowKit
set_option maxRecDepth 100000
set_option maxHeartbeats 200000
theorem base_Floor_spec {v1 : Int} {v2 : Int} {v3 : Int} (hr : base_Floor v1 v2 = some (v3)) : Spec (lim Tryz.prog) 84 [.v (.int .i64 v1),.v (.int .i64 v2)] ⟨[.v (.int .i64 v3)],[]⟩:=by
  unfold base_Floor at hr
  have T:=trivial
  apply Spec.fn Tryz.func84 rfl
  focus (simp [Tryz.f84]<;>exact rfl)
  focus
    refine wa_ T (g:=?_)
    by_cases h1 : v2 = 0
    · rw [if_pos h1] at hr
      cases hr
    · rw [if_neg h1] at hr
      have T:=an h1 T
      refine wa_ T (g:=?_)
      rcases ifs hr with ⟨h2,hr⟩|⟨h2,hr⟩
      · have T:=an h2 T
        refine wa_ T (g:=?_)
        cases hr
        refine ⟨.inr rfl,_,(ry T),?_⟩
        exact wk_ T [] rfl .nil
      · have T:=an h2 T
        refine wa_ T (g:=?_)
        cases hr
        refine ⟨.inr rfl,_,(ry T),?_⟩
        exact wk_ T [] rfl .nil
  rfl

end Go.Rex

namespace Go.Rex
open Go.Proofs
open Go Go.Rex Go.RowKit
set_option maxRecDepth 100000
set_option maxHeartbeats 200000
theorem base_Ceil_spec {v1 : Int} {v2 : Int} {v3 : Int} (hr : base_Ceil v1 v2 = some (v3)) : Spec (lim Tryz.prog) 66 [.v (.int .i64 v1),.v (.int .i64 v2)] ⟨[.v (.int .i64 v3)],[]⟩:=by
  unfold base_Ceil at hr
  have T:=trivial
  apply Spec.fn Tryz.func66 rfl
  focus (simp [Tryz.f66]<;>exact rfl)
  focus
    refine wa_ T (g:=?_)
    apply TO.pop1 (wn T) (pop_neg rfl)
    repeat exact sd T
    refine wa_ T (g:=?_)
    obtain ⟨v4,h1,hr⟩:=bs hr
    apply TO.cal (wn T) rfl goFn84 (base_Floor_spec h1) rfl rfl rfl
    repeat exact sd T
    refine wa_ T (g:=?_)
    apply TO.pop1 (wn T) (pop_neg rfl)
    repeat exact sd T
    refine wa_ T (g:=?_)
    cases hr
    refine ⟨.inr rfl,_,(ry T),?_⟩
    exact wr [] rfl .nil
  rfl

end Go.Rex

namespace Go.Rex
open Go.Proofs
open Go Go.Rex Go.RowKit
set_option maxRecDepth 100000
set_option maxHeartbeats 1000000
def y35:=an @ag22 <| an @ag26 <| an @ag3 <| an @ag45 <| an @cs26 <| an @cs45 <| an @fd24_0 <| an @fd24_1 <| an @fd26_0 <| an @fd26_2 <| an @fd45_0 <| an @fd45_1 <| an @ok26 <| an @ok45 <| an @so22 <| an @st45 <| an @zc45 <| @wi64_0a1
theorem ref05_Centre_spec {v1 : Int} {v2 : (List Nat)} {v3 : Int} {v4 : Int} {v5 : Int} {v6 : Int} {v7 : Int} (hr : ref05_Centre v1 v2 v3 v4 = some (v5,v6,v7)) : Spec (lim Tryz.prog) 51 [.agg [.v (.int .i64 v1),.list 1 (v2.map e_f),.v (.int .i64 v3),.v (.int .i64 v4)]] ⟨[.tuple [.agg [.v (.int .i64 v5),.v (.int .i64 v6)],.v (.int .i64 v7)]],[]⟩:=by
  unfold ref05_Centre at hr
  have T:=an y35 <| @e_f.eq_1
  apply Spec.fn Tryz.func51 rfl
  focus (simp [Tryz.f51]<;>exact rfl)
  focus
    refine wB T (g:=?_)
    rcases ifs hr with ⟨h1,hr⟩|⟨h1,hr⟩
    · have T:=an h1 T
      refine wa_ T (g:=?_)
      cases hr
      refine ⟨.inr rfl,_,(ry T),?_⟩
      exact wk_ T [] rfl .nil
    · have T:=an h1 T
      refine wA T (g:=?_)
      obtain ⟨⟨v8,v9⟩,h2,hr⟩:=bs hr
      try dsimp only at hr
      apply TO.cal (wn T) rfl goFn76 (ref05_sum_spec h2) rfl rfl rfl
      repeat exact sd T
      refine wA T (g:=?_)
      rcases ifs hr with ⟨h3,hr⟩|⟨h3,hr⟩
      · have T:=an h3 T
        refine wa_ T (g:=?_)
        cases hr
        refine ⟨.inr rfl,_,(ry T),?_⟩
        exact wk_ T [] rfl .nil
      · have T:=an h3 T
        refine wC T (g:=?_)
        obtain ⟨⟨v19,v20⟩,h8,hr⟩:=bs hr
        try dsimp only at hr
        refine TX.loopE (step:=ref05_Centre_l1 v1 v2 v3 v4) (x:=(0,0,0)) h8 (fun (v10,v11,v12)=>⟨.junk :: .fptr true [.v (.int .i64 v1),.list 1 (v2.map e_f),.v (.int .i64 v3),.v (.int .i64 v4)] 0 :: .lptr 0 0 0 :: .junk :: .lptr 1 0 0 :: .lptr 2 0 0 :: .v (.int .i64 (v2.length : Int)) :: .v (.int .i64 v12) :: .junk :: .junk :: .junk :: .junk :: .junk :: .junk :: .junk :: .junk :: .junk :: .junk :: .junk :: .junk :: .junk :: .junk :: .junk :: .junk :: .junk :: .junk :: .junk :: .junk :: .junk :: .junk :: .junk :: .junk :: .junk :: .junk :: .junk :: .junk :: .junk :: .junk :: .junk :: .junk :: .junk :: .junk :: .junk :: .junk :: .junk :: .junk :: .junk :: .junk :: .junk :: .junk :: .junk :: .junk :: .junk :: .junk :: .junk :: .junk :: .junk :: .junk :: .junk :: .junk :: .junk :: .junk :: .junk :: .junk :: .junk :: .junk :: .junk :: .junk :: .junk :: .junk :: .junk :: .junk :: .junk :: .junk :: .junk :: .junk :: .junk :: .junk :: .junk :: .junk :: .junk :: .junk :: .junk :: .junk :: .junk :: .junk :: .junk :: .junk :: .junk :: .junk :: .junk :: .junk :: .junk :: .junk :: .junk :: .junk :: .junk :: .junk :: .junk :: .junk :: .junk :: .junk :: .junk :: .junk :: .junk :: [],[.var [.v (.int .i64 0),.v (.int .i64 0)],.var [.v (.int .i64 v8),.v (.int .i64 v9)],.var [.v (.int .i64 v10),.v (.int .i64 v11)]]⟩) (fun (v15,v16)=>(.exit 0,⟨.junk :: .fptr true [.v (.int .i64 v1),.list 1 (v2.map e_f),.v (.int .i64 v3),.v (.int .i64 v4)] 0 :: .lptr 0 0 0 :: .junk :: .lptr 1 0 0 :: .lptr 2 0 0 :: .v (.int .i64 (v2.length : Int)) :: .junk :: .junk :: .junk :: .junk :: .junk :: .junk :: .junk :: .junk :: .junk :: .junk :: .junk :: .junk :: .junk :: .junk :: .junk :: .junk :: .junk :: .junk :: .junk :: .junk :: .junk :: .junk :: .junk :: .junk :: .junk :: .junk :: .junk :: .junk :: .junk :: .junk :: .junk :: .junk :: .junk :: .junk :: .junk :: .junk :: .junk :: .junk :: .junk :: .junk :: .junk :: .junk :: .junk :: .junk :: .junk :: .junk :: .junk :: .junk :: .junk :: .junk :: .junk :: .junk :: .junk :: .junk :: .junk :: .junk :: .junk :: .junk :: .junk :: .junk :: .junk :: .junk :: .junk :: .junk :: .junk :: .junk :: .junk :: .junk :: .junk :: .junk :: .junk :: .junk :: .junk :: .junk :: .junk :: .junk :: .junk :: .junk :: .junk :: .junk :: .junk :: .junk :: .junk :: .junk :: .junk :: .junk :: .junk :: .junk :: .junk :: .junk :: .junk :: .junk :: .junk :: .junk :: .junk :: .junk :: .junk :: .junk :: [],[.var [.v (.int .i64 0),.v (.int .i64 0)],.var [.v (.int .i64 v8),.v (.int .i64 v9)],.var [.v (.int .i64 v15),.v (.int .i64 v16)]]⟩)) ?_ ?_ ?_ ?_
        · rintro ⟨v10,v11,v12⟩ v0 hr
          dsimp only [ref05_Centre_l1] at hr
          try dsimp only
          refine wa_ T (g:=?_)
          rcases ifs hr with ⟨h6,hr⟩|⟨h6,hr⟩
          · have T:=an h6 T
            refine wA T (g:=?_)
            obtain ⟨⟨v17,v18⟩,h7,hr⟩:=bs hr
            try dsimp only at hr
            apply TO.cal (wn T) rfl goFn74 (ref05_square_spec h7) rfl rfl rfl
            repeat exact sd T
            refine wA T (g:=?_)
            cases hr
            refine ⟨rfl,?_⟩
            exact wk_ T [some 0,some 1,some 2] rfl (rv (rv (rv .nil rfl) rfl) rfl)
          · have T:=an h6 T
            refine wa_ T (g:=?_)
            cases hr
            refine ⟨rfl,?_⟩
            exact wk_ T [some 0,some 1,some 2] rfl (rv (rv (rv .nil rfl) rfl) rfl)
        · intro e h;cases h
        · try dsimp only
          refine wA T (g:=?_)
          by_cases h9 : v9 = 0
          · rw [if_pos h9] at hr
            cases hr
          · rw [if_neg h9] at hr
            have T:=an h9 T
            refine wA T (g:=?_)
            obtain ⟨v21,h10,hr⟩:=bs hr
            apply TD.cal (wn T) rfl goFn84 (base_Floor_spec h10) rfl rfl rfl
            repeat exact sd T
            refine wa_ T (g:=?_)
            obtain ⟨v22,h11,hr⟩:=bs hr
            apply TD.cal (wn T) rfl goFn84 (base_Floor_spec h11) rfl rfl rfl
            repeat exact sd T
            refine wa_ T (g:=?_)
            obtain ⟨v23,h12,hr⟩:=bs hr
            apply TO.cal (wn T) rfl goFn66 (base_Ceil_spec h12) rfl rfl rfl
            repeat exact sd T
            refine wA T (g:=?_)
            by_cases h13 : v8 = 0
            · rw [if_pos h13] at hr
              cases hr
            · rw [if_neg h13] at hr
              have T:=an h13 T
              refine wa_ T (g:=?_)
              rcases ifs hr with ⟨h14,hr⟩|⟨h14,hr⟩
              · have T:=an h14 T
                refine wA T (g:=?_)
                obtain ⟨v24,h15,hr⟩:=bs hr
                apply TD.cal (wn T) rfl goFn66 (base_Ceil_spec h15) rfl rfl rfl
                repeat exact sd T
                refine wa_ T (g:=?_)
                obtain ⟨v25,h16,hr⟩:=bs hr
                apply TD.cal (wn T) rfl goFn66 (base_Ceil_spec h16) rfl rfl rfl
                repeat exact sd T
                refine wa_ T (g:=?_)
                apply TD.pop1 (wn T) (pop_min rfl rfl)
                repeat exact sd T
                refine wa_ T (g:=?_)
                cases hr
                refine ⟨.inr rfl,_,(ry T),?_⟩
                exact wk_ T [] rfl .nil
              · have T:=an h14 T
                refine wa_ T (g:=?_)
                cases hr
                refine ⟨.inr rfl,_,(ry T),?_⟩
                exact wk_ T [] rfl .nil
        · try dsimp only
          exact wk_ T [some 0,some 1,some 2] rfl (rv (rv (rv .nil rfl) rfl) rfl)
  rfl

end Go.Rex

namespace Go.Rex
open Go.Proofs
open Go Go.Rex Go.RowKit
set_option maxRecDepth 100000

end Go.Rex

namespace Go.Rex
open Go.Proofs
open Go Go.Rex Go.RowKit
set_option maxRecDepth 100000
set_option maxHeartbeats 4000000
def y36:=an @ag24 <| an @ag26 <| an @ag45 <| an @cs24 <| an @cs26 <| an @cs45 <| an @eqg45 <| an @eqs45 <| an @fd26_0 <| an @ok24 <| an @ok26 <| an @ok45 <| @zc45
theorem law05_FigureCentres_law {v1 : Int} {v2 : (List Nat)} {v3 : Int} {v4 : Int} (hr : law05_FigureCentres v1 v2 v3 v4 = some true) {Fz : Nat → Prop} {h : List Blk} {vs : List Value} (hfz : ∀ n, Fz n → n < h.length) (hargs : VLs Fz h noL [.agg [.v (.int .i64 v1), .list 1 (v2.map e_f), .v (.int .i64 v3), .v (.int .i64 v4)]] vs)
    {B lo : Nat} {D : Nat → Prop} {m : NMap} {w : World} {args' : List Value} (hrel : Rel B lo D m h w) (hlo : lo ≤ h.length) (hargs' : VRs D m vs args') : Calls Tryz.prog 10 ⟨args'⟩ w (fun e w'=>e = .returned (.bool true) ∧ Below w.heap.size w w'):=by
  unfold law05_FigureCentres at hr
  have T:=an y36 <| @e_f.eq_1
  refine law_tex follows awake_true Tryz.func10 rfl (tm0:=.agg [.v (.int .i64 v1),.list 1 (v2.map e_f),.v (.int .i64 v3),.v (.int .i64 v4)] :: .junk :: .junk :: .junk :: .junk :: .junk :: .junk :: .junk :: .junk :: .junk :: .junk :: .junk :: .junk :: .junk :: .junk :: .junk :: .junk :: .junk :: .junk :: .junk :: .junk :: .junk :: .junk :: .junk :: .junk :: .junk :: .junk :: .junk :: .junk :: .junk :: .junk :: .junk :: .junk :: .junk :: .junk :: .junk :: []) (by simp [Tryz.f10]<;>exact rfl) ?_ hfz hargs hrel hlo hargs'
  refine wb_ T (g:=?_)
  apply TO.cal (wn T) rfl goFn11 Spec.awake rfl rfl rfl
  repeat exact sd T
  refine wa_ T (g:=?_)
  apply TO.pop1 (wn T) (pop_not rfl)
  repeat exact sd T
  refine wA T (g:=?_)
  obtain ⟨v6,h1,hr⟩:=bs hr
  apply TO.cal (wn T) rfl goFn12 (Spec.ov (law05_Few_spec h1) (by decide)) rfl rfl rfl
  repeat exact sd T
  refine wa_ T (g:=?_)
  apply TO.pop1 (wn T) (pop_not rfl)
  repeat exact sd T
  refine wa_ T (g:=?_)
  rcases ifs hr with ⟨h2,hr⟩|⟨h2,hr⟩
  · have T:=an h2 T
    refine wA T (g:=?_)
    obtain ⟨⟨v7,v8,v9,v10⟩,h3,hr⟩:=bs hr
    try dsimp only at hr
    apply TO.cal (wn T) rfl goFn16 (Spec.ov (ref05_Copy_spec h3) (by decide)) rfl rfl rfl
    repeat exact sd T
    refine wa_ T (g:=?_)
    obtain ⟨⟨v11,v12,v13⟩,h4,hr⟩:=bs hr
    try dsimp only at hr
    apply TO.lok (wn T) rfl goFn50 (Spec.ov (figure_Centre_spec h4) (by decide)) (vw T) rfl rfl (by simp [clTB,cl,e_f,e_i,e_ii])
    repeat exact sd T
    refine wA T (g:=?_)
    obtain ⟨v14,h5,hr⟩:=bs hr
    apply TO.cal (wn T) rfl goFn26 (Spec.ov (ref05_AskErr_spec h5) (by decide)) rfl rfl rfl
    repeat exact sd T
    refine wa_ T (g:=?_)
    rcases ifs hr with ⟨h6,hr⟩|⟨h6,hr⟩
    · have T:=an h6 T
      refine wA T (g:=?_)
      obtain ⟨⟨v15,v16,v17⟩,h7,hr⟩:=bs hr
      try dsimp only at hr
      apply TO.cal (wn T) rfl goFn51 (Spec.ov (ref05_Centre_spec h7) (by decide)) rfl rfl rfl
      repeat exact sd T
      refine wa_ T (g:=?_)
      rcases ifs hr with ⟨h8,hr⟩|⟨h8,hr⟩
      · have T:=an h8 T
        refine wA T (g:=?_)
        apply TO.pop1 (wn T) (pop_eqs1 (X:=⟨[.int .i64 (v11),.int .i64 (v12)]⟩) (Y:=⟨[.int .i64 (v15),.int .i64 (v16)]⟩) rfl rfl rfl rfl rfl rfl rfl eqg45 eqs45 rfl)
        repeat exact sd T
        refine wa_ T (g:=?_)
        exact lv T hr
      · have T:=an h8 T
        refine wa_ T (g:=?_)
        exact lv T hr
    · have T:=an h6 T
      refine wa_ T (g:=?_)
      rcases ifs hr with ⟨h9,hr⟩|⟨h9,hr⟩
      · have T:=an h9 T
        refine wA T (g:=?_)
        apply TO.pop1 (wn T) (pop_eqs1 (X:=⟨[.int .i64 (v11),.int .i64 (v12)]⟩) (Y:=⟨[.int .i64 (0),.int .i64 (0)]⟩) rfl rfl rfl rfl rfl rfl rfl eqg45 eqs45 rfl)
        repeat exact sd T
        refine wa_ T (g:=?_)
        exact lv T hr
      · have T:=an h9 T
        refine wa_ T (g:=?_)
        exact lv T hr
  · have T:=an h2 T
    refine wa_ T (g:=?_)
    exact lv T hr

end Go.Rex
