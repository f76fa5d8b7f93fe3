/- Proofs that the program's functions do what these plain functions say. -/
import Derived.Test.YtbodidihhbejmaaGB
import Derived.Test.YtbodidihhbejmaaS
set_option linter.unusedSimpArgs false
set_option linter.unusedVariables false
set_option linter.defProp false
namespace Go.Rex
open Go.Proofs
open Go Go.Rex Go.RowKit
set_option maxRecDepth 100000
set_option maxHeartbeats 200000
def y1:=@so23
theorem law04_Few_spec {v1 : (List (Nat × Nat))} {v2 : Bool} (hr : law04_Few v1 = some (v2)) : Spec (lim Try.prog) 8 [.list 2 (v1.map e_ff)] ⟨[.v (.bool v2)],[]⟩:=by
  unfold law04_Few at hr
  have T:=an y1 <| @e_ff.eq_1
  apply Spec.fn Try.func8 rfl
  focus (simp [Try.f8]<;>exact rfl)
  focus
    refine wc_ T (g:=?_)
    rcases ifs hr with ⟨h1,hr⟩|⟨h1,hr⟩
    · have T:=an h1 T
      refine wa_ T (g:=?_)
      cases hr
      refine ⟨.inr rfl,_,(ry T),?_⟩
      exact wk_ T [] rfl .nil
    · have T:=an h1 T
      refine wc_ T (g:=?_)
      rcases ifs hr with ⟨h2,hr⟩|⟨h2,hr⟩
      · have T:=an h2 T
        refine wc_ T (g:=?_)
        cases hr
        refine ⟨.inr rfl,_,(ry T),?_⟩
        exact wk_ T [] rfl .nil
      · have T:=an h2 T
        refine wa_ T (g:=?_)
        cases hr
        refine ⟨.inr rfl,_,(ry T),?_⟩
        exact wk_ T [] rfl .nil
  rfl

end Go.Rex

namespace Go.Rex
open Go.Proofs
open Go Go.Rex Go.RowKit
set_option maxRecDepth 100000
set_option maxHeartbeats 200000
def y2:=an @ag51 <| an @ar71 <| an @by49 <| an @cs49 <| an @cs51 <| an @cs71 <| an @ni31 <| an @ok51 <| an @ok71 <| an @so23 <| an @so31 <| an @so71 <| an @zc49 <| @wi64_0a1
theorem law04_List_spec {v1 : (List (Nat × Nat))} {v2 : (List (Nat × Nat))} (hr : law04_List v1 = some (v2)) : Spec (lim Try.prog) 10 [.list 2 (v1.map e_ff)] ⟨[.lsl 0 0 v2.length],[.rows 1 (v2.map e_c)]⟩:=by
  unfold law04_List at hr
  have T:=an y2 <| an @e_c.eq_1 <| @e_ff.eq_1
  apply Spec.fn Try.func10 rfl
  focus (simp [Try.f10]<;>exact rfl)
  focus
    refine wa_ T (g:=?_)
    apply TX.vt (α:=(Nat × Nat)) e_c 3 1 rfl
    repeat exact sd T
    with_reducible apply TX.here
    refine wa_ T (g:=?_)
    obtain ⟨v12,h7,hr⟩:=bs hr
    refine TX.loopE (step:=law04_List_l1 v1) (x:=(([] : List (Nat × Nat)),0)) h7 (fun (v3,v4)=>⟨.list 2 (v1.map e_ff) :: .junk :: .junk :: .lsl 0 0 v3.length :: .v (.int .i64 v4) :: .junk :: .junk :: .junk :: .junk :: .junk :: .junk :: .junk :: .junk :: .junk :: .junk :: .junk :: .junk :: .junk :: .junk :: .junk :: .junk :: .junk :: .junk :: .junk :: .junk :: .junk :: [],[.rows 1 (v3.map e_c)]⟩) (fun v8=>(.exit 0,⟨.junk :: .junk :: .junk :: .lsl 0 0 v8.length :: .junk :: .junk :: .junk :: .junk :: .junk :: .junk :: .junk :: .junk :: .junk :: .junk :: .junk :: .junk :: .junk :: .junk :: .junk :: .junk :: .junk :: .junk :: .junk :: .junk :: .junk :: .junk :: [],[.rows 1 (v8.map e_c)]⟩)) ?_ ?_ ?_ ?_
    · rintro ⟨v3,v4⟩ v0 hr
      dsimp only [law04_List_l1] at hr
      try dsimp only
      refine wc_ T (g:=?_)
      rcases ifs hr with ⟨h4,hr⟩|⟨h4,hr⟩
      · have T:=an h4 T
        refine wa_ T (g:=?_)
        obtain ⟨⟨v9,v10⟩,h5,hr⟩:=bs hr
        try dsimp only at hr
        have h5m:=tidx_map (f:=e_ff) h5
        have h5l:=getI_lt h5
        try simp only [List.length_set] at h5l
        have h5a:=getI_at h5
        repeat (first|(with_reducible first|refine mv ?_|refine m12 rfl ?_|refine TD.nil ?_)|((with_reducible first|apply TD.ia|apply TD.ia|apply TD.ld|apply TD.mv);(repeat (focus (show _ = _;first|exact k1 rfl|exact k2 rfl|(simp only [zz,y2,e_c,e_ff,Nat.reduceAdd,Nat.reduceMul,Nat.reduceLeDiff,Nat.reduceEqDiff,tindexAddr,Nat.zero_add,z5,Int.reduceToNat,Int.reduceLE,Int.reduceLT,Int.cast_ofNat_Int,tload,rowOf,partT,List.getElem?_map,h4,h5m,h5l,h5a]<;>exact rfl)|exact rfl)));(with_reducible refine TD.here ?_))|((with_reducible apply TX.drawn);(focus decide +kernel);(focus (simp only [zl]<;>exact rfl));(focus exact rfl);(try dsimp only))|fail)
        have T:=an h5m T
        have T:=an h5l T
        have T:=an h5a T
        apply TD.pop1 (wn T) (pop_complex rfl rfl)
        repeat exact sd T
        refine wa_ T (g:=?_)
        apply TD.bm e_c ([(v9,v10)] : List (Nat × Nat)) (wn T) rfl (by simp only [zz,y2,e_c,e_ff,Nat.reduceAdd,Nat.reduceMul,Nat.reduceLeDiff,Nat.reduceEqDiff,tslice,tparts,h4,h5m,h5l,h5a];exact rfl) rfl
        repeat exact sd T
        refine wa_ T (g:=?_)
        obtain ⟨v11,h6,hr⟩:=bs hr
        apply TD.ap (f:=e_c) (xs:=v3) (ys:=([(v9,v10)] : List (Nat × Nat))) (wn T) rfl rfl (by first|rfl|simp only [List.length_set]) rfl rfl so31 ni31 zc49 rfl (by rw [by49];exact h6) (fun _=>⟨rfl,rfl,rfl⟩) rfl
        repeat exact sd T
        refine wa_ T (g:=?_)
        cases hr
        refine ⟨rfl,?_⟩
        exact wk_ T [some 0] rfl (.rows .nil rfl rfl)
      · have T:=an h4 T
        refine wa_ T (g:=?_)
        cases hr
        refine ⟨rfl,?_⟩
        exact wk_ T [some 0] rfl (.rows .nil rfl rfl)
    · intro e h;cases h
    · try dsimp only
      refine wa_ T (g:=?_)
      cases hr
      refine ⟨.inr rfl,_,(ry T),?_⟩
      exact wr [some 0] rfl (.rows .nil rfl rfl)
    · try dsimp only
      exact wr [some 0] rfl (.rows .nil rfl rfl)
  rfl

end Go.Rex

namespace Go.Rex
open Go.Proofs
open Go Go.Rex Go.RowKit
set_option maxRecDepth 100000
set_option maxHeartbeats 200000
theorem pulse_listed_spec {v1 : (List (Nat × Nat))} {v2 : (List (Nat × Nat))} (hr : pulse_listed v1 = some (v2)) : Spec (lim Try.prog) 34 [.list 1 (v1.map e_c)] ⟨[.func 82 [] [.fptr true [.list 1 (v2.map e_c)] 0]],[]⟩:=by
  unfold pulse_listed at hr
  have T:=@e_c.eq_1
  apply Spec.fn Try.func34 rfl
  focus (simp [Try.f34]<;>exact rfl)
  focus
    refine wb_ T (g:=?_)
    cases hr
    refine ⟨.inr rfl,_,(ry T),?_⟩
    exact wr [] rfl .nil
  rfl

end Go.Rex

namespace Go.Rex
open Go.Proofs
open Go Go.Rex Go.RowKit
set_option maxRecDepth 100000
set_option maxHeartbeats 200000
theorem pulse_refuse_spec {v1 : Bool} {v2 : Int} {v3 : Bool} {v4 : Int} (hr : pulse_refuse v1 v2 = some (v3,v4)) : Spec (lim Try.prog) 55 [.v (.bool v1),.v (.int .i64 v2)] ⟨[.func 98 [] [.fptr true [.v (.bool v3)] 0,.fptr true [.v (.int .i64 v4)] 0]],[]⟩:=by
  unfold pulse_refuse at hr
  have T:=trivial
  apply Spec.fn Try.func55 rfl
  focus (simp [Try.f55]<;>exact rfl)
  focus
    refine wb_ T (g:=?_)
    cases hr
    refine ⟨.inr rfl,_,(ry T),?_⟩
    exact wr [] rfl .nil
  rfl

end Go.Rex

namespace Go.Rex
open Go.Proofs
open Go Go.Rex Go.RowKit
set_option maxRecDepth 100000
set_option maxHeartbeats 200000
theorem pulse_within_spec {v1 : Int} {v2 : Int} {v3 : Int} {v4 : Bool} {v5 : Int} (hr : pulse_within v1 v2 v3 = some (v4,v5)) : Spec (lim Try.prog) 35 [.v (.int .i64 v1),.v (.int .i64 v2),.v (.int .i64 v3)] ⟨[.func 98 [] [.fptr true [.v (.bool v4)] 0,.fptr true [.v (.int .i64 v5)] 0]],[]⟩:=by
  unfold pulse_within at hr
  have T:=trivial
  apply Spec.fn Try.func35 rfl
  focus (simp [Try.f35]<;>exact rfl)
  focus
    refine wa_ T (g:=?_)
    rcases ifs hr with ⟨h1,hr⟩|⟨h1,hr⟩
    · have T:=an h1 T
      refine wa_ T (g:=?_)
      obtain ⟨⟨v6,v7⟩,h2,hr⟩:=bs hr
      try dsimp only at hr
      apply TO.cal (wn T) rfl goFn55 (pulse_refuse_spec h2) rfl rfl rfl
      repeat exact sd T
      refine wa_ T (g:=?_)
      cases hr
      refine ⟨.inr rfl,_,(ry T),?_⟩
      exact wk_ T [] rfl .nil
    · have T:=an h1 T
      refine wa_ T (g:=?_)
      obtain ⟨⟨v8,v9⟩,h3,hr⟩:=bs hr
      try dsimp only at hr
      apply TO.cal (wn T) rfl goFn55 (pulse_refuse_spec h3) rfl rfl rfl
      repeat exact sd T
      refine wa_ T (g:=?_)
      cases hr
      refine ⟨.inr rfl,_,(ry T),?_⟩
      exact wk_ T [] rfl .nil
  rfl

end Go.Rex

namespace Go.Rex
open Go.Proofs
open Go Go.Rex Go.RowKit
set_option maxRecDepth 100000
set_option maxHeartbeats 200000
theorem pulse_each_e848_spec {v1 : Int} {v2 : (List (Nat × Nat))} {v3 : Int} {v4 : (List (Nat × Nat))} (hr : pulse_each_e848 v1 v2 = some (v3,v4)) : Spec (lim Try.prog) 65 [.v (.int .i64 v1),.func 83 [] [.fptr true [.list 1 (v2.map e_c)] 0]] ⟨[.func 100 [] [.fptr true [.v (.int .i64 v3)] 0,.fptr true [.func 83 [] [.fptr true [.list 1 (v4.map e_c)] 0]] 0]],[]⟩:=by
  unfold pulse_each_e848 at hr
  have T:=@e_c.eq_1
  apply Spec.fn Try.func65 rfl
  focus (simp [Try.f65]<;>exact rfl)
  focus
    refine wb_ T (g:=?_)
    cases hr
    refine ⟨.inr rfl,_,(ry T),?_⟩
    exact wr [] rfl .nil
  rfl

end Go.Rex

namespace Go.Rex
open Go.Proofs
open Go Go.Rex Go.RowKit
set_option maxRecDepth 100000
set_option maxHeartbeats 200000
def y3:=an @ag32 <| @ag4
theorem pulse_refuse_c1_11f9_spec {v1 : Bool} {v2 : Int} {v3 : Int} (hr : pulse_refuse_c1_11f9 v1 v2 = some (v3)) : Spec (lim Try.prog) 98 [.fptr true [.v (.bool v1)] 0,.fptr true [.v (.int .i64 v2)] 0] ⟨[.v (.int .i64 v3)],[]⟩:=by
  unfold pulse_refuse_c1_11f9 at hr
  have T:=y3
  apply Spec.fn Try.func98 rfl
  focus (simp [Try.f98]<;>exact rfl)
  focus
    refine wA T (g:=?_)
    rcases ifs hr with ⟨h1,hr⟩|⟨h1,hr⟩
    · have T:=an h1 T
      refine wA T (g:=?_)
      cases hr
      refine ⟨.inr rfl,_,(ry T),?_⟩
      exact wk_ T [] rfl .nil
    · have T:=an h1 T
      refine wa_ T (g:=?_)
      cases hr
      refine ⟨.inr rfl,_,(ry T),?_⟩
      exact wk_ T [] rfl .nil
  rfl

end Go.Rex

namespace Go.Rex
open Go.Proofs
open Go Go.Rex Go.RowKit
set_option maxRecDepth 100000
set_option maxHeartbeats 200000
def y4:=an @ar_129 <| @ex129
theorem math_Trunc_spec {v1 : Nat} {v2 : Nat} (hr : math_Trunc v1 = some (v2)) : Spec (lim Try.prog) 120 [.v (.float .f64 v1)] ⟨[.v (.float .f64 v2)],[]⟩:=by
  unfold math_Trunc at hr
  have T:=y4
  apply Spec.fn Try.func120 rfl
  focus (simp [Try.f120]<;>exact rfl)
  focus
    refine wa_ T (g:=?_)
    obtain ⟨v3,h1,hr⟩:=bs hr
    apply TO.tr (wn T) rfl ex129 ar_129 (by simp only [z1,z3,zl]<;>rfl) h1
    repeat exact sd T
    refine wa_ T (g:=?_)
    cases hr
    refine ⟨.inr rfl,_,(ry T),?_⟩
    exact wr [] rfl .nil
  rfl

end Go.Rex

namespace Go.Rex
open Go.Proofs
open Go Go.Rex Go.RowKit
set_option maxRecDepth 100000
set_option maxHeartbeats 200000
def y5:=an @ex133 <| @ex97
theorem math_Abs_spec {v1 : Nat} {v2 : Nat} (hr : math_Abs v1 = some (v2)) : Spec (lim Try.prog) 131 [.v (.float .f64 v1)] ⟨[.v (.float .f64 v2)],[]⟩:=by
  unfold math_Abs at hr
  have T:=y5
  apply Spec.fn Try.func131 rfl
  focus (simp [Try.f131]<;>exact rfl)
  focus
    refine wa_ T (g:=?_)
    obtain ⟨v3,h1,hr⟩:=bs hr
    apply TO.fb (wn T) rfl ex97 (by simp only [z1,z3,zl]<;>rfl) h1 rfl
    repeat exact sd T
    refine wa_ T (g:=?_)
    apply TO.pop1 (wn T) (pop_bits rfl rfl (by decide))
    repeat exact sd T
    refine wa_ T (g:=?_)
    apply TO.ex (wn T) rfl ex133 (by simp only [z1,z3,zl];exact rfl) rfl rfl (rfl) rfl rfl rfl
    repeat exact sd T
    refine wa_ T (g:=?_)
    cases hr
    refine ⟨.inr rfl,_,(ry T),?_⟩
    exact wr [] rfl .nil
  rfl

end Go.Rex

namespace Go.Rex
open Go.Proofs
open Go Go.Rex Go.RowKit
set_option maxRecDepth 100000
set_option maxHeartbeats 200000
theorem math_IsInf_spec {v1 : Nat} {v2 : Int} {v3 : Bool} (hr : math_IsInf v1 v2 = some (v3)) : Spec (lim Try.prog) 121 [.v (.float .f64 v1),.v (.int .i64 v2)] ⟨[.v (.bool v3)],[]⟩:=by
  unfold math_IsInf at hr
  have T:=trivial
  apply Spec.fn Try.func121 rfl
  focus (simp [Try.f121]<;>exact rfl)
  focus
    refine wa_ T (g:=?_)
    rcases ifs hr with ⟨h1,hr⟩|⟨h1,hr⟩
    · have T:=an h1 T
      refine wa_ T (g:=?_)
      obtain ⟨v4,h2,hr⟩:=bs hr
      apply TO.cal (wn T) rfl goFn131 (math_Abs_spec h2) rfl rfl rfl
      repeat exact sd T
      refine wa_ T (g:=?_)
      apply TO.pop1 (wn T) (pop_fcmp rfl rfl (by decide))
      repeat exact sd T
      refine wa_ T (g:=?_)
      cases hr
      refine ⟨.inr rfl,_,(ry T),?_⟩
      exact wk_ T [] rfl .nil
    · have T:=an h1 T
      refine wa_ T (g:=?_)
      rcases ifs hr with ⟨h3,hr⟩|⟨h3,hr⟩
      · have T:=an h3 T
        refine wa_ T (g:=?_)
        apply TO.pop1 (wn T) (pop_fneg rfl)
        repeat exact sd T
        refine wa_ T (g:=?_)
        apply TO.pop1 (wn T) (pop_fcmp rfl rfl (by decide))
        repeat exact sd T
        refine wa_ T (g:=?_)
        cases hr
        refine ⟨.inr rfl,_,(ry T),?_⟩
        exact wk_ T [] rfl .nil
      · have T:=an h3 T
        refine wa_ T (g:=?_)
        apply TO.pop1 (wn T) (pop_fcmp rfl rfl (by decide))
        repeat exact sd T
        refine wa_ T (g:=?_)
        cases hr
        refine ⟨.inr rfl,_,(ry T),?_⟩
        exact wk_ T [] rfl .nil
  rfl

end Go.Rex

namespace Go.Rex
open Go.Proofs
open Go Go.Rex Go.RowKit
set_option maxRecDepth 100000
set_option maxHeartbeats 200000
def y6:=an @un132 <| @un51
theorem pulse_isWhole_spec {v1 : Nat} {v2 : Bool} (hr : pulse_isWhole v1 = some (v2)) : Spec (lim Try.prog) 112 [.v (.float .f32 v1)] ⟨[.v (.bool v2)],[]⟩:=by
  unfold pulse_isWhole at hr
  have T:=y6
  apply Spec.fn Try.func112 rfl
  focus (simp [Try.f112]<;>exact rfl)
  focus
    refine wa_ T (g:=?_)
    obtain ⟨v3,h1,hr⟩:=bs hr
    apply TO.pop1 (wn T) (cvt_float_float un51 un132 rfl h1)
    repeat exact sd T
    refine wa_ T (g:=?_)
    obtain ⟨v4,h2,hr⟩:=bs hr
    apply TO.cal (wn T) rfl goFn120 (math_Trunc_spec h2) rfl rfl rfl
    repeat exact sd T
    refine wa_ T (g:=?_)
    apply TO.pop1 (wn T) (pop_fcmp rfl rfl (by decide))
    repeat exact sd T
    refine wa_ T (g:=?_)
    rcases ifs hr with ⟨h3,hr⟩|⟨h3,hr⟩
    · have T:=an h3 T
      refine wa_ T (g:=?_)
      obtain ⟨v5,h4,hr⟩:=bs hr
      apply TO.cal (wn T) rfl goFn121 (math_IsInf_spec h4) rfl rfl rfl
      repeat exact sd T
      refine wa_ T (g:=?_)
      apply TO.pop1 (wn T) (pop_not rfl)
      repeat exact sd T
      refine wa_ T (g:=?_)
      cases hr
      refine ⟨.inr rfl,_,(ry T),?_⟩
      exact wk_ T [] rfl .nil
    · have T:=an h3 T
      refine wa_ T (g:=?_)
      cases hr
      refine ⟨.inr rfl,_,(ry T),?_⟩
      exact wk_ T [] rfl .nil
  rfl

end Go.Rex

namespace Go.Rex
open Go.Proofs
open Go Go.Rex Go.RowKit
set_option maxRecDepth 100000
set_option maxHeartbeats 200000
theorem pulse_isSmall_float32_spec {v1 : Nat} {v2 : Nat} {v3 : Bool} (hr : pulse_isSmall_float32 v1 v2 = some (v3)) : Spec (lim Try.prog) 113 [.v (.float .f32 v1),.v (.float .f32 v2)] ⟨[.v (.bool v3)],[]⟩:=by
  unfold pulse_isSmall_float32 at hr
  have T:=trivial
  apply Spec.fn Try.func113 rfl
  focus (simp [Try.f113]<;>exact rfl)
  focus
    refine wa_ T (g:=?_)
    apply TO.pop1 (wn T) (pop_fneg rfl)
    repeat exact sd T
    refine wa_ T (g:=?_)
    apply TO.pop1 (wn T) (pop_fcmp rfl rfl (by decide))
    repeat exact sd T
    refine wa_ T (g:=?_)
    rcases ifs hr with ⟨h1,hr⟩|⟨h1,hr⟩
    · have T:=an h1 T
      refine wa_ T (g:=?_)
      apply TO.pop1 (wn T) (pop_fcmp rfl rfl (by decide))
      repeat exact sd T
      refine wa_ T (g:=?_)
      cases hr
      refine ⟨.inr rfl,_,(ry T),?_⟩
      exact wk_ T [] rfl .nil
    · have T:=an h1 T
      refine wa_ T (g:=?_)
      cases hr
      refine ⟨.inr rfl,_,(ry T),?_⟩
      exact wk_ T [] rfl .nil
  rfl

end Go.Rex

namespace Go.Rex
open Go.Proofs
open Go Go.Rex Go.RowKit
set_option maxRecDepth 100000
set_option maxHeartbeats 200000
def y7:=an @ag80 <| an @cs80 <| an @ok80 <| an @so128 <| an @wi64_0a1 <| @wi64_1a1
theorem pulse_firstError_9abe_spec {v1 : Bool} {v2 : Int} {v3 : Bool} {v4 : Int} {v5 : Int} (hr : pulse_firstError_9abe v1 v2 v3 v4 = some (v5)) : Spec (lim Try.prog) 33 [.list 1 [[.func 98 [] [.fptr true [.v (.bool v1)] 0,.fptr true [.v (.int .i64 v2)] 0]],[.func 98 [] [.fptr true [.v (.bool v3)] 0,.fptr true [.v (.int .i64 v4)] 0]]]] ⟨[.v (.int .i64 v5)],[]⟩:=by
  unfold pulse_firstError_9abe at hr
  have T:=y7
  apply Spec.fn Try.func33 rfl
  focus (simp [Try.f33]<;>exact rfl)
  focus
    refine wc_ T (g:=?_)
    refine TX.unroll ?_
    repeat (first|(with_reducible first|refine mv ?_|refine m12 rfl ?_|refine TO.nil ?_)|((with_reducible first|apply TO.bin|apply TO.ia|apply TO.ld|apply TO.asg|apply TO.mv);(repeat (focus (show _ = _;first|exact k1 rfl|exact k2 rfl|(simp only [zz,y7,Nat.reduceAdd,Nat.reduceMul,Nat.reduceLeDiff,Nat.reduceEqDiff,tindexAddr,z5,Int.reduceToNat,Int.reduceLE,Int.reduceLT,Int.cast_ofNat_Int,tload,rowOf,partT,List.getElem?_map]<;>exact rfl)|exact rfl)));(with_reducible apply TO.here))|((with_reducible apply TX.region);(focus (simp only [zl]<;>exact rfl));(focus rfl);(try dsimp only))|((with_reducible apply TX.cond_true);(focus rfl);(focus (first|rfl|(simp only [z1,zn];done))))|((with_reducible apply TX.cond_false);(focus rfl);(focus (first|rfl|(simp only [z1,zn];done))))|fail)
    obtain ⟨v6,h1,hr⟩:=bs hr
    apply TO.cal (wn T) rfl goFn98 (pulse_refuse_c1_11f9_spec h1) rfl rfl rfl
    repeat exact sd T
    refine wa_ T (g:=?_)
    rcases ifs hr with ⟨h2,hr⟩|⟨h2,hr⟩
    · have T:=an h2 T
      refine wa_ T (g:=?_)
      cases hr
      refine ⟨.inr rfl,_,(ry T),?_⟩
      exact wk_ T [] rfl .nil
    · have T:=an h2 T
      refine wa_ T (g:=?_)
      refine TX.unroll ?_
      repeat (first|(with_reducible first|refine mv ?_|refine m12 rfl ?_|refine TO.nil ?_)|((with_reducible first|apply TO.bin|apply TO.ia|apply TO.ld|apply TO.asg|apply TO.mv);(repeat (focus (show _ = _;first|exact k1 rfl|exact k2 rfl|(simp only [zz,y7,Nat.reduceAdd,Nat.reduceMul,Nat.reduceLeDiff,Nat.reduceEqDiff,tindexAddr,z5,Int.reduceToNat,Int.reduceLE,Int.reduceLT,Int.cast_ofNat_Int,tload,rowOf,partT,List.getElem?_map,h2]<;>exact rfl)|exact rfl)));(with_reducible apply TO.here))|((with_reducible apply TX.region);(focus (simp only [zl]<;>exact rfl));(focus rfl);(try dsimp only))|((with_reducible apply TX.cond_true);(focus rfl);(focus (first|rfl|(simp only [z1,zn,h2];done))))|((with_reducible apply TX.cond_false);(focus rfl);(focus (first|rfl|(simp only [z1,zn,h2];done))))|fail)
      obtain ⟨v7,h3,hr⟩:=bs hr
      apply TO.cal (wn T) rfl goFn98 (pulse_refuse_c1_11f9_spec h3) rfl rfl rfl
      repeat exact sd T
      refine wa_ T (g:=?_)
      rcases ifs hr with ⟨h4,hr⟩|⟨h4,hr⟩
      · have T:=an h4 T
        refine wa_ T (g:=?_)
        cases hr
        refine ⟨.inr rfl,_,(ry T),?_⟩
        exact wk_ T [] rfl .nil
      · have T:=an h4 T
        refine wa_ T (g:=?_)
        refine TX.unroll ?_
        refine wa_ T (g:=?_)
        cases hr
        refine ⟨.inr rfl,_,(ry T),?_⟩
        exact wk_ T [] rfl .nil
  rfl

end Go.Rex

namespace Go.Rex
open Go.Proofs
open Go Go.Rex Go.RowKit
set_option maxRecDepth 100000
set_option maxHeartbeats 1000000
def y8:=an @cs80 <| an @so128 <| @zc80
theorem pulse_errorOf_spec {v1 : Nat} {v2 : Nat} {v3 : Int} (hr : pulse_errorOf v1 v2 = some (v3)) : Spec (lim Try.prog) 84 [.v (.complex .f32 v1 v2)] ⟨[.v (.int .i64 v3)],[]⟩:=by
  unfold pulse_errorOf at hr
  have T:=y8
  apply Spec.fn Try.func84 rfl
  focus (simp [Try.f84]<;>exact rfl)
  focus
    refine wa_ T (g:=?_)
    apply TO.pop1 (wn T) (pop_real rfl)
    repeat exact sd T
    refine wa_ T (g:=?_)
    apply TO.pop1 (wn T) (pop_imag rfl)
    repeat exact sd T
    refine wa_ T (g:=?_)
    obtain ⟨v4,h1,hr⟩:=bs hr
    apply TO.cal (wn T) rfl goFn112 (pulse_isWhole_spec h1) rfl rfl rfl
    repeat exact sd T
    refine wa_ T (g:=?_)
    apply TO.pop1 (wn T) (pop_not rfl)
    repeat exact sd T
    refine wa_ T (g:=?_)
    rcases ifs hr with ⟨h2,hr⟩|⟨h2,hr⟩
    · have T:=an h2 T
      refine wa_ T (g:=?_)
      obtain ⟨v5,h3,hr⟩:=bs hr
      apply TO.cal (wn T) rfl goFn112 (pulse_isWhole_spec h3) rfl rfl rfl
      repeat exact sd T
      refine wa_ T (g:=?_)
      apply TO.pop1 (wn T) (pop_not rfl)
      repeat exact sd T
      refine wa_ T (g:=?_)
      obtain ⟨⟨v6,v7⟩,h4,hr⟩:=bs hr
      try dsimp only at hr
      apply TO.cal (wn T) rfl goFn55 (pulse_refuse_spec h4) rfl rfl rfl
      repeat exact sd T
      refine wa_ T (g:=?_)
      obtain ⟨v8,h5,hr⟩:=bs hr
      apply TO.cal (wn T) rfl goFn113 (pulse_isSmall_float32_spec h5) rfl rfl rfl
      repeat exact sd T
      refine wa_ T (g:=?_)
      apply TO.pop1 (wn T) (pop_not rfl)
      repeat exact sd T
      refine wa_ T (g:=?_)
      rcases ifs hr with ⟨h6,hr⟩|⟨h6,hr⟩
      · have T:=an h6 T
        refine wa_ T (g:=?_)
        obtain ⟨v9,h7,hr⟩:=bs hr
        apply TO.cal (wn T) rfl goFn113 (pulse_isSmall_float32_spec h7) rfl rfl rfl
        repeat exact sd T
        refine wa_ T (g:=?_)
        apply TO.pop1 (wn T) (pop_not rfl)
        repeat exact sd T
        refine wa_ T (g:=?_)
        obtain ⟨⟨v10,v11⟩,h8,hr⟩:=bs hr
        try dsimp only at hr
        apply TO.cal (wn T) rfl goFn55 (pulse_refuse_spec h8) rfl rfl rfl
        repeat exact sd T
        refine we_ T (g:=?_)
        obtain ⟨v12,h9,hr⟩:=bs hr
        apply TO.cal (wn T) rfl goFn33 (pulse_firstError_9abe_spec h9) rfl rfl rfl
        repeat exact sd T
        refine wa_ T (g:=?_)
        cases hr
        refine ⟨.inr rfl,_,(ry T),?_⟩
        exact wk_ T [] rfl .nil
      · have T:=an h6 T
        refine wa_ T (g:=?_)
        obtain ⟨⟨v13,v14⟩,h10,hr⟩:=bs hr
        try dsimp only at hr
        apply TO.cal (wn T) rfl goFn55 (pulse_refuse_spec h10) rfl rfl rfl
        repeat exact sd T
        refine we_ T (g:=?_)
        obtain ⟨v15,h11,hr⟩:=bs hr
        apply TO.cal (wn T) rfl goFn33 (pulse_firstError_9abe_spec h11) rfl rfl rfl
        repeat exact sd T
        refine wa_ T (g:=?_)
        cases hr
        refine ⟨.inr rfl,_,(ry T),?_⟩
        exact wk_ T [] rfl .nil
    · have T:=an h2 T
      refine wa_ T (g:=?_)
      obtain ⟨⟨v16,v17⟩,h12,hr⟩:=bs hr
      try dsimp only at hr
      apply TO.cal (wn T) rfl goFn55 (pulse_refuse_spec h12) rfl rfl rfl
      repeat exact sd T
      refine wa_ T (g:=?_)
      obtain ⟨v18,h13,hr⟩:=bs hr
      apply TO.cal (wn T) rfl goFn113 (pulse_isSmall_float32_spec h13) rfl rfl rfl
      repeat exact sd T
      refine wa_ T (g:=?_)
      apply TO.pop1 (wn T) (pop_not rfl)
      repeat exact sd T
      refine wa_ T (g:=?_)
      rcases ifs hr with ⟨h14,hr⟩|⟨h14,hr⟩
      · have T:=an h14 T
        refine wa_ T (g:=?_)
        obtain ⟨v19,h15,hr⟩:=bs hr
        apply TO.cal (wn T) rfl goFn113 (pulse_isSmall_float32_spec h15) rfl rfl rfl
        repeat exact sd T
        refine wa_ T (g:=?_)
        apply TO.pop1 (wn T) (pop_not rfl)
        repeat exact sd T
        refine wa_ T (g:=?_)
        obtain ⟨⟨v20,v21⟩,h16,hr⟩:=bs hr
        try dsimp only at hr
        apply TO.cal (wn T) rfl goFn55 (pulse_refuse_spec h16) rfl rfl rfl
        repeat exact sd T
        refine we_ T (g:=?_)
        obtain ⟨v22,h17,hr⟩:=bs hr
        apply TO.cal (wn T) rfl goFn33 (pulse_firstError_9abe_spec h17) rfl rfl rfl
        repeat exact sd T
        refine wa_ T (g:=?_)
        cases hr
        refine ⟨.inr rfl,_,(ry T),?_⟩
        exact wk_ T [] rfl .nil
      · have T:=an h14 T
        refine wa_ T (g:=?_)
        obtain ⟨⟨v23,v24⟩,h18,hr⟩:=bs hr
        try dsimp only at hr
        apply TO.cal (wn T) rfl goFn55 (pulse_refuse_spec h18) rfl rfl rfl
        repeat exact sd T
        refine we_ T (g:=?_)
        obtain ⟨v25,h19,hr⟩:=bs hr
        apply TO.cal (wn T) rfl goFn33 (pulse_firstError_9abe_spec h19) rfl rfl rfl
        repeat exact sd T
        refine wa_ T (g:=?_)
        cases hr
        refine ⟨.inr rfl,_,(ry T),?_⟩
        exact wk_ T [] rfl .nil
  rfl

end Go.Rex

namespace Go.Rex
open Go.Proofs
open Go Go.Rex Go.RowKit
set_option maxRecDepth 100000
set_option maxHeartbeats 200000
def y9:=an @ag31 <| an @ag49 <| an @cs49 <| an @ok49 <| @so31
theorem pulse_listed_c1_c1_06f5_spec {v1 : Int} {v2 : (List (Nat × Nat))} {v3 : Int} (hr : pulse_listed_c1_c1_06f5 v1 v2 = some (v3)) : Spec (lim Try.prog) 83 [.v (.int .i64 v1),.fptr true [.list 1 (v2.map e_c)] 0] ⟨[.v (.int .i64 v3)],[]⟩:=by
  unfold pulse_listed_c1_c1_06f5 at hr
  have T:=an y9 <| @e_c.eq_1
  apply Spec.fn Try.func83 rfl
  focus (simp [Try.f83]<;>exact rfl)
  focus
    refine wA T (g:=?_)
    obtain ⟨⟨v4,v5⟩,h1,hr⟩:=bs hr
    try dsimp only at hr
    have T:=an (gx e_c h1) T
    refine wA T (g:=?_)
    obtain ⟨v6,h2,hr⟩:=bs hr
    apply TO.cal (wn T) rfl goFn84 (pulse_errorOf_spec h2) rfl rfl rfl
    repeat exact sd T
    refine wa_ T (g:=?_)
    cases hr
    refine ⟨.inr rfl,_,(ry T),?_⟩
    exact wr [] rfl .nil
  rfl

end Go.Rex

namespace Go.Rex
open Go.Proofs
open Go Go.Rex Go.RowKit
set_option maxRecDepth 100000
set_option maxHeartbeats 200000
def y10:=an @ag118 <| an @ag3 <| @wi64_0a1
theorem pulse_each_c1_b362_spec {v1 : Int} {v2 : (List (Nat × Nat))} {v3 : Int} (hr : pulse_each_c1_b362 v1 v2 = some (v3)) : Spec (lim Try.prog) 100 [.fptr true [.v (.int .i64 v1)] 0,.fptr true [.func 83 [] [.fptr true [.list 1 (v2.map e_c)] 0]] 0] ⟨[.v (.int .i64 v3)],[]⟩:=by
  unfold pulse_each_c1_b362 at hr
  have T:=an y10 <| @e_c.eq_1
  apply Spec.fn Try.func100 rfl
  focus (simp [Try.f100]<;>exact rfl)
  focus
    refine wA T (g:=?_)
    obtain ⟨v8,h7,hr⟩:=bs hr
    refine TX.loopE (step:=pulse_each_c1_b362_l1 v1 v2) (x:=0) h7 (fun v4=>⟨.junk :: .fptr true [.func 83 [] [.fptr true [.list 1 (v2.map e_c)] 0]] 0 :: .junk :: .junk :: .junk :: .v (.int .i64 v1) :: .v (.int .i64 v4) :: .junk :: .junk :: .junk :: .junk :: .junk :: .junk :: .junk :: .junk :: .junk :: [],[]⟩) (fun e=>match e with|(.inl v6)=>(.ret,⟨.junk :: .junk :: .v (.int .i64 v6) :: .junk :: .junk :: .junk :: .junk :: .junk :: .junk :: .junk :: .junk :: .junk :: .junk :: .junk :: .junk :: .junk :: [],[]⟩)|(.inr _)=>(.exit 0,⟨.junk :: .junk :: .junk :: .junk :: .junk :: .junk :: .junk :: .junk :: .junk :: .junk :: .junk :: .junk :: .junk :: .junk :: .junk :: .junk :: [],[]⟩)) ?_ ?_ ?_ ?_
    · rintro v4 v0 hr
      dsimp only [pulse_each_c1_b362_l1] at hr
      try dsimp only
      refine wa_ T (g:=?_)
      rcases ifs hr with ⟨h4,hr⟩|⟨h4,hr⟩
      · have T:=an h4 T
        refine wA T (g:=?_)
        obtain ⟨v7,h5,hr⟩:=bs hr
        apply TO.cal (wn T) rfl goFn83 (pulse_listed_c1_c1_06f5_spec h5) rfl rfl rfl
        repeat exact sd T
        refine wa_ T (g:=?_)
        rcases ifs hr with ⟨h6,hr⟩|⟨h6,hr⟩
        · have T:=an h6 T
          refine wa_ T (g:=?_)
          cases hr
          refine ⟨rfl,?_⟩
          exact wk_ T [] rfl .nil
        · have T:=an h6 T
          refine wa_ T (g:=?_)
          cases hr
          refine ⟨rfl,?_⟩
          exact wk_ T [] rfl .nil
      · have T:=an h4 T
        refine wa_ T (g:=?_)
        cases hr
        refine ⟨rfl,?_⟩
        exact wk_ T [] rfl .nil
    · intro e h;rcases e with _|e<;>cases h
    · try dsimp only
      rcases v8 with v9|_
      · try dsimp only at hr
        try dsimp only
        refine wa_ T (g:=?_)
        cases hr
        refine ⟨.inr rfl,_,(ry T),?_⟩
        exact wr [] rfl .nil
      · try dsimp only at hr
        try dsimp only
        refine wa_ T (g:=?_)
        cases hr
        refine ⟨.inr rfl,_,(ry T),?_⟩
        exact wr [] rfl .nil
    · try dsimp only
      exact wr [] rfl .nil
  rfl

end Go.Rex

namespace Go.Rex
open Go.Proofs
open Go Go.Rex Go.RowKit
set_option maxRecDepth 100000
set_option maxHeartbeats 200000
def y11:=an @ag80 <| an @cs80 <| an @ok80 <| an @so128 <| an @wi64_0a1 <| an @wi64_1a1 <| @wi64_2a1
theorem pulse_firstError_046d_spec {v1 : Bool} {v2 : Int} {v3 : Bool} {v4 : Int} {v5 : Int} {v6 : (List (Nat × Nat))} {v7 : Int} (hr : pulse_firstError_046d v1 v2 v3 v4 v5 v6 = some (v7)) : Spec (lim Try.prog) 33 [.list 1 [[.func 98 [] [.fptr true [.v (.bool v1)] 0,.fptr true [.v (.int .i64 v2)] 0]],[.func 98 [] [.fptr true [.v (.bool v3)] 0,.fptr true [.v (.int .i64 v4)] 0]],[.func 100 [] [.fptr true [.v (.int .i64 v5)] 0,.fptr true [.func 83 [] [.fptr true [.list 1 (v6.map e_c)] 0]] 0]]]] ⟨[.v (.int .i64 v7)],[]⟩:=by
  unfold pulse_firstError_046d at hr
  have T:=an y11 <| @e_c.eq_1
  apply Spec.fn Try.func33 rfl
  focus (simp [Try.f33]<;>exact rfl)
  focus
    refine wc_ T (g:=?_)
    refine TX.unroll ?_
    repeat (first|(with_reducible first|refine mv ?_|refine m12 rfl ?_|refine TO.nil ?_)|((with_reducible first|apply TO.bin|apply TO.ia|apply TO.ld|apply TO.asg|apply TO.mv);(repeat (focus (show _ = _;first|exact k1 rfl|exact k2 rfl|(simp only [zz,y11,e_c,Nat.reduceAdd,Nat.reduceMul,Nat.reduceLeDiff,Nat.reduceEqDiff,tindexAddr,z5,Int.reduceToNat,Int.reduceLE,Int.reduceLT,Int.cast_ofNat_Int,tload,rowOf,partT,List.getElem?_map]<;>exact rfl)|exact rfl)));(with_reducible apply TO.here))|((with_reducible apply TX.region);(focus (simp only [zl]<;>exact rfl));(focus rfl);(try dsimp only))|((with_reducible apply TX.cond_true);(focus rfl);(focus (first|rfl|(simp only [z1,zn];done))))|((with_reducible apply TX.cond_false);(focus rfl);(focus (first|rfl|(simp only [z1,zn];done))))|fail)
    obtain ⟨v8,h1,hr⟩:=bs hr
    apply TO.cal (wn T) rfl goFn98 (pulse_refuse_c1_11f9_spec h1) rfl rfl rfl
    repeat exact sd T
    refine wa_ T (g:=?_)
    rcases ifs hr with ⟨h2,hr⟩|⟨h2,hr⟩
    · have T:=an h2 T
      refine wa_ T (g:=?_)
      cases hr
      refine ⟨.inr rfl,_,(ry T),?_⟩
      exact wk_ T [] rfl .nil
    · have T:=an h2 T
      refine wa_ T (g:=?_)
      refine TX.unroll ?_
      repeat (first|(with_reducible first|refine mv ?_|refine m12 rfl ?_|refine TO.nil ?_)|((with_reducible first|apply TO.bin|apply TO.ia|apply TO.ld|apply TO.asg|apply TO.mv);(repeat (focus (show _ = _;first|exact k1 rfl|exact k2 rfl|(simp only [zz,y11,e_c,Nat.reduceAdd,Nat.reduceMul,Nat.reduceLeDiff,Nat.reduceEqDiff,tindexAddr,z5,Int.reduceToNat,Int.reduceLE,Int.reduceLT,Int.cast_ofNat_Int,tload,rowOf,partT,List.getElem?_map,h2]<;>exact rfl)|exact rfl)));(with_reducible apply TO.here))|((with_reducible apply TX.region);(focus (simp only [zl]<;>exact rfl));(focus rfl);(try dsimp only))|((with_reducible apply TX.cond_true);(focus rfl);(focus (first|rfl|(simp only [z1,zn,h2];done))))|((with_reducible apply TX.cond_false);(focus rfl);(focus (first|rfl|(simp only [z1,zn,h2];done))))|fail)
      obtain ⟨v9,h3,hr⟩:=bs hr
      apply TO.cal (wn T) rfl goFn98 (pulse_refuse_c1_11f9_spec h3) rfl rfl rfl
      repeat exact sd T
      refine wa_ T (g:=?_)
      rcases ifs hr with ⟨h4,hr⟩|⟨h4,hr⟩
      · have T:=an h4 T
        refine wa_ T (g:=?_)
        cases hr
        refine ⟨.inr rfl,_,(ry T),?_⟩
        exact wk_ T [] rfl .nil
      · have T:=an h4 T
        refine wa_ T (g:=?_)
        refine TX.unroll ?_
        repeat (first|(with_reducible first|refine mv ?_|refine m12 rfl ?_|refine TO.nil ?_)|((with_reducible first|apply TO.bin|apply TO.ia|apply TO.ld|apply TO.asg|apply TO.mv);(repeat (focus (show _ = _;first|exact k1 rfl|exact k2 rfl|(simp only [zz,y11,e_c,Nat.reduceAdd,Nat.reduceMul,Nat.reduceLeDiff,Nat.reduceEqDiff,tindexAddr,z5,Int.reduceToNat,Int.reduceLE,Int.reduceLT,Int.cast_ofNat_Int,tload,rowOf,partT,List.getElem?_map,h2,h4]<;>exact rfl)|exact rfl)));(with_reducible apply TO.here))|((with_reducible apply TX.region);(focus (simp only [zl]<;>exact rfl));(focus rfl);(try dsimp only))|((with_reducible apply TX.cond_true);(focus rfl);(focus (first|rfl|(simp only [z1,zn,h2,h4];done))))|((with_reducible apply TX.cond_false);(focus rfl);(focus (first|rfl|(simp only [z1,zn,h2,h4];done))))|fail)
        obtain ⟨v10,h5,hr⟩:=bs hr
        apply TO.cal (wn T) rfl goFn100 (pulse_each_c1_b362_spec h5) rfl rfl rfl
        repeat exact sd T
        refine wa_ T (g:=?_)
        rcases ifs hr with ⟨h6,hr⟩|⟨h6,hr⟩
        · have T:=an h6 T
          refine wa_ T (g:=?_)
          cases hr
          refine ⟨.inr rfl,_,(ry T),?_⟩
          exact wk_ T [] rfl .nil
        · have T:=an h6 T
          refine wa_ T (g:=?_)
          refine TX.unroll ?_
          refine wa_ T (g:=?_)
          cases hr
          refine ⟨.inr rfl,_,(ry T),?_⟩
          exact wk_ T [] rfl .nil
  rfl

end Go.Rex

namespace Go.Rex
open Go.Proofs
open Go Go.Rex Go.RowKit
set_option maxRecDepth 100000
set_option maxHeartbeats 200000
def y12:=an @ag31 <| an @cs80 <| an @so128 <| an @so31 <| @zc80
theorem pulse_listed_c1_f1d2_spec {v1 : (List (Nat × Nat))} {v2 : Int} (hr : pulse_listed_c1_f1d2 v1 = some (v2)) : Spec (lim Try.prog) 82 [.fptr true [.list 1 (v1.map e_c)] 0] ⟨[.v (.int .i64 v2)],[]⟩:=by
  unfold pulse_listed_c1_f1d2 at hr
  have T:=an y12 <| @e_c.eq_1
  apply Spec.fn Try.func82 rfl
  focus (simp [Try.f82]<;>exact rfl)
  focus
    refine wC T (g:=?_)
    obtain ⟨⟨v3,v4⟩,h1,hr⟩:=bs hr
    try dsimp only at hr
    apply TD.cal (wn T) rfl goFn55 (pulse_refuse_spec h1) rfl rfl rfl
    repeat exact sd T
    refine wC T (g:=?_)
    obtain ⟨⟨v5,v6⟩,h2,hr⟩:=bs hr
    try dsimp only at hr
    apply TD.cal (wn T) rfl goFn55 (pulse_refuse_spec h2) rfl rfl rfl
    repeat exact sd T
    refine wC T (g:=?_)
    obtain ⟨⟨v7,v8⟩,h3,hr⟩:=bs hr
    try dsimp only at hr
    apply TD.cal (wn T) rfl goFn65 (pulse_each_e848_spec h3) rfl rfl rfl
    repeat exact sd T
    refine we_ T (g:=?_)
    obtain ⟨v9,h4,hr⟩:=bs hr
    apply TD.cal (wn T) rfl goFn33 (pulse_firstError_046d_spec h4) rfl rfl rfl
    repeat exact sd T
    refine wa_ T (g:=?_)
    cases hr
    refine ⟨.inr rfl,_,(ry T),?_⟩
    exact wr [] rfl .nil
  rfl

end Go.Rex

namespace Go.Rex
open Go.Proofs
open Go Go.Rex Go.RowKit
set_option maxRecDepth 100000
set_option maxHeartbeats 200000
def y13:=an @ag80 <| an @cs80 <| an @ok80 <| an @so128 <| an @wi64_0a1 <| @wi64_1a1
theorem pulse_firstError_c7bf_spec {v1 : (List (Nat × Nat))} {v2 : Bool} {v3 : Int} {v4 : Int} (hr : pulse_firstError_c7bf v1 v2 v3 = some (v4)) : Spec (lim Try.prog) 33 [.list 1 [[.func 82 [] [.fptr true [.list 1 (v1.map e_c)] 0]],[.func 98 [] [.fptr true [.v (.bool v2)] 0,.fptr true [.v (.int .i64 v3)] 0]]]] ⟨[.v (.int .i64 v4)],[]⟩:=by
  unfold pulse_firstError_c7bf at hr
  have T:=an y13 <| @e_c.eq_1
  apply Spec.fn Try.func33 rfl
  focus (simp [Try.f33]<;>exact rfl)
  focus
    refine wc_ T (g:=?_)
    refine TX.unroll ?_
    repeat (first|(with_reducible first|refine mv ?_|refine m12 rfl ?_|refine TO.nil ?_)|((with_reducible first|apply TO.bin|apply TO.ia|apply TO.ld|apply TO.asg|apply TO.mv);(repeat (focus (show _ = _;first|exact k1 rfl|exact k2 rfl|(simp only [zz,y13,e_c,Nat.reduceAdd,Nat.reduceMul,Nat.reduceLeDiff,Nat.reduceEqDiff,tindexAddr,z5,Int.reduceToNat,Int.reduceLE,Int.reduceLT,Int.cast_ofNat_Int,tload,rowOf,partT,List.getElem?_map]<;>exact rfl)|exact rfl)));(with_reducible apply TO.here))|((with_reducible apply TX.region);(focus (simp only [zl]<;>exact rfl));(focus rfl);(try dsimp only))|((with_reducible apply TX.cond_true);(focus rfl);(focus (first|rfl|(simp only [z1,zn];done))))|((with_reducible apply TX.cond_false);(focus rfl);(focus (first|rfl|(simp only [z1,zn];done))))|fail)
    obtain ⟨v5,h1,hr⟩:=bs hr
    apply TO.cal (wn T) rfl goFn82 (pulse_listed_c1_f1d2_spec h1) rfl rfl rfl
    repeat exact sd T
    refine wa_ T (g:=?_)
    rcases ifs hr with ⟨h2,hr⟩|⟨h2,hr⟩
    · have T:=an h2 T
      refine wa_ T (g:=?_)
      cases hr
      refine ⟨.inr rfl,_,(ry T),?_⟩
      exact wk_ T [] rfl .nil
    · have T:=an h2 T
      refine wa_ T (g:=?_)
      refine TX.unroll ?_
      repeat (first|(with_reducible first|refine mv ?_|refine m12 rfl ?_|refine TO.nil ?_)|((with_reducible first|apply TO.bin|apply TO.ia|apply TO.ld|apply TO.asg|apply TO.mv);(repeat (focus (show _ = _;first|exact k1 rfl|exact k2 rfl|(simp only [zz,y13,e_c,Nat.reduceAdd,Nat.reduceMul,Nat.reduceLeDiff,Nat.reduceEqDiff,tindexAddr,z5,Int.reduceToNat,Int.reduceLE,Int.reduceLT,Int.cast_ofNat_Int,tload,rowOf,partT,List.getElem?_map,h2]<;>exact rfl)|exact rfl)));(with_reducible apply TO.here))|((with_reducible apply TX.region);(focus (simp only [zl]<;>exact rfl));(focus rfl);(try dsimp only))|((with_reducible apply TX.cond_true);(focus rfl);(focus (first|rfl|(simp only [z1,zn,h2];done))))|((with_reducible apply TX.cond_false);(focus rfl);(focus (first|rfl|(simp only [z1,zn,h2];done))))|fail)
      obtain ⟨v6,h3,hr⟩:=bs hr
      apply TO.cal (wn T) rfl goFn98 (pulse_refuse_c1_11f9_spec h3) rfl rfl rfl
      repeat exact sd T
      refine wa_ T (g:=?_)
      rcases ifs hr with ⟨h4,hr⟩|⟨h4,hr⟩
      · have T:=an h4 T
        refine wa_ T (g:=?_)
        cases hr
        refine ⟨.inr rfl,_,(ry T),?_⟩
        exact wk_ T [] rfl .nil
      · have T:=an h4 T
        refine wa_ T (g:=?_)
        refine TX.unroll ?_
        refine wa_ T (g:=?_)
        cases hr
        refine ⟨.inr rfl,_,(ry T),?_⟩
        exact wk_ T [] rfl .nil
  rfl

end Go.Rex

namespace Go.Rex
open Go.Proofs
open Go Go.Rex Go.RowKit
set_option maxRecDepth 100000
set_option maxHeartbeats 200000
def y14:=an @ag109 <| an @cs109 <| an @ok109 <| an @st109 <| an @un3 <| an @un51 <| @zc109
theorem pulse_numberOf_spec {v1 : Nat} {v2 : Nat} {v3 : Int} {v4 : Int} (hr : pulse_numberOf v1 v2 = some (v3,v4)) : Spec (lim Try.prog) 67 [.v (.complex .f32 v1 v2)] ⟨[.agg [.v (.int .i64 v3),.v (.int .i64 v4)]],[]⟩:=by
  unfold pulse_numberOf at hr
  have T:=y14
  apply Spec.fn Try.func67 rfl
  focus (simp [Try.f67]<;>exact rfl)
  focus
    refine wa_ T (g:=?_)
    apply TO.pop1 (wn T) (pop_real rfl)
    repeat exact sd T
    refine wa_ T (g:=?_)
    obtain ⟨v5,h1,hr⟩:=bs hr
    apply TO.pop1 (wn T) (cvt_float_int un51 un3 rfl h1)
    repeat exact sd T
    refine wa_ T (g:=?_)
    apply TO.pop1 (wn T) (pop_imag rfl)
    repeat exact sd T
    refine wa_ T (g:=?_)
    obtain ⟨v6,h2,hr⟩:=bs hr
    apply TO.pop1 (wn T) (cvt_float_int un51 un3 rfl h2)
    repeat exact sd T
    refine wa_ T (g:=?_)
    cases hr
    refine ⟨.inr rfl,_,(ry T),?_⟩
    exact wr [] rfl .nil
  rfl

end Go.Rex

namespace Go.Rex
open Go.Proofs
open Go Go.Rex Go.RowKit
set_option maxRecDepth 100000
set_option maxHeartbeats 200000
def y15:=an @ag49 <| an @by109 <| an @cs109 <| an @cs49 <| an @ni84 <| an @ok49 <| an @so31 <| an @so84 <| an @zc109 <| @wi64_0a1
theorem pulse_numbersOf_spec {v1 : (List (Nat × Nat))} {v2 : (List (Int × Int))} (hr : pulse_numbersOf v1 = some (v2)) : Spec (lim Try.prog) 38 [.list 1 (v1.map e_c)] ⟨[.lsl 0 0 v2.length],[.rows 2 (v2.map e_ii)]⟩:=by
  unfold pulse_numbersOf at hr
  have T:=an y15 <| an @e_c.eq_1 <| @e_ii.eq_1
  apply Spec.fn Try.func38 rfl
  focus (simp [Try.f38]<;>exact rfl)
  focus
    refine wc_ T (g:=?_)
    apply TX.vt (α:=(Int × Int)) e_ii 3 2 rfl
    repeat exact sd T
    with_reducible apply TX.here
    refine wa_ T (g:=?_)
    obtain ⟨v16,h9,hr⟩:=bs hr
    refine TX.loopE (step:=pulse_numbersOf_l1 v1) (x:=(([] : List (Int × Int)),0)) h9 (fun (v3,v4)=>⟨.junk :: .junk :: .junk :: .lsl 0 0 v3.length :: .junk :: .junk :: .list 1 (v1.map e_c) :: .v (.int .i64 (v1.length : Int)) :: .v (.int .i64 v4) :: .junk :: .junk :: .junk :: .junk :: .junk :: .junk :: .junk :: .junk :: .junk :: .junk :: [],[.rows 2 (v3.map e_ii)]⟩) (fun v10=>(.exit 0,⟨.junk :: .junk :: .junk :: .lsl 0 0 v10.length :: .junk :: .junk :: .junk :: .junk :: .junk :: .junk :: .junk :: .junk :: .junk :: .junk :: .junk :: .junk :: .junk :: .junk :: .junk :: [],[.rows 2 (v10.map e_ii)]⟩)) ?_ ?_ ?_ ?_
    · rintro ⟨v3,v4⟩ v0 hr
      dsimp only [pulse_numbersOf_l1] at hr
      try dsimp only
      refine wa_ T (g:=?_)
      rcases ifs hr with ⟨h5,hr⟩|⟨h5,hr⟩
      · have T:=an h5 T
        refine wa_ T (g:=?_)
        obtain ⟨⟨v11,v12⟩,h6,hr⟩:=bs hr
        try dsimp only at hr
        have h6m:=tidx_map (f:=e_c) h6
        have h6l:=getI_lt h6
        try simp only [List.length_set] at h6l
        have h6a:=getI_at h6
        have T:=an h6m T
        have T:=an h6l T
        have T:=an h6a T
        refine wA T (g:=?_)
        obtain ⟨⟨v13,v14⟩,h7,hr⟩:=bs hr
        try dsimp only at hr
        apply TO.cal (wn T) rfl goFn67 (pulse_numberOf_spec h7) rfl rfl rfl
        repeat exact sd T
        refine wa_ T (g:=?_)
        apply TO.bm e_ii ([(v13,v14)] : List (Int × Int)) (wn T) rfl (by simp only [zz,y15,e_c,e_ii,Nat.reduceAdd,Nat.reduceMul,Nat.reduceLeDiff,Nat.reduceEqDiff,tslice,tparts,h5,h6m,h6l,h6a];exact rfl) rfl
        repeat exact sd T
        refine wa_ T (g:=?_)
        obtain ⟨v15,h8,hr⟩:=bs hr
        apply TO.ap (f:=e_ii) (xs:=v3) (ys:=([(v13,v14)] : List (Int × Int))) (wn T) rfl rfl (by first|rfl|simp only [List.length_set]) rfl rfl so84 ni84 zc109 rfl (by rw [by109];exact h8) (fun _=>⟨rfl,rfl,rfl⟩)
        repeat exact sd T
        refine wa_ T (g:=?_)
        cases hr
        refine ⟨rfl,?_⟩
        exact wk_ T [some 0] rfl (.rows .nil rfl rfl)
      · have T:=an h5 T
        refine wa_ T (g:=?_)
        cases hr
        refine ⟨rfl,?_⟩
        exact wk_ T [some 0] rfl (.rows .nil rfl rfl)
    · intro e h;cases h
    · try dsimp only
      refine wa_ T (g:=?_)
      cases hr
      refine ⟨.inr rfl,_,(ry T),?_⟩
      exact wr [some 0] rfl (.rows .nil rfl rfl)
    · try dsimp only
      exact wr [some 0] rfl (.rows .nil rfl rfl)
  rfl

end Go.Rex

namespace Go.Rex
open Go.Proofs
open Go Go.Rex Go.RowKit
set_option maxRecDepth 100000
set_option maxHeartbeats 200000
def y16:=an @ag109 <| an @ag3 <| an @cs109 <| an @fd109_0 <| an @fd109_1 <| an @ok109 <| an @st109 <| @zc109
theorem pulse_number_plus_spec {v1 : Int} {v2 : Int} {v3 : Int} {v4 : Int} {v5 : Int} {v6 : Int} (hr : pulse_number_plus v1 v2 v3 v4 = some (v5,v6)) : Spec (lim Try.prog) 73 [.agg [.v (.int .i64 v1),.v (.int .i64 v2)],.agg [.v (.int .i64 v3),.v (.int .i64 v4)]] ⟨[.agg [.v (.int .i64 v5),.v (.int .i64 v6)]],[]⟩:=by
  unfold pulse_number_plus at hr
  have T:=y16
  apply Spec.fn Try.func73 rfl
  focus (simp [Try.f73]<;>exact rfl)
  focus
    refine wB T (g:=?_)
    cases hr
    refine ⟨.inr rfl,_,(ry T),?_⟩
    exact wr [] rfl .nil
  rfl

end Go.Rex

namespace Go.Rex
open Go.Proofs
open Go Go.Rex Go.RowKit
set_option maxRecDepth 100000
set_option maxHeartbeats 200000
def y17:=an @ag109 <| an @by109 <| an @cs109 <| an @ok109 <| an @so84 <| an @zc109 <| @wi64_0a1
theorem pulse_foldedTo_spec {v1 : (List (Int × Int))} {v2 : Int} {v3 : (List (Int × Int))} (hr : pulse_foldedTo v1 v2 = some (v3)) : Spec (lim Try.prog) 37 [.list 2 (v1.map e_ii),.v (.int .i64 v2)] ⟨[.lsl 0 0 v3.length],[.rows 2 (v3.map e_ii)]⟩:=by
  unfold pulse_foldedTo at hr
  have T:=an y17 <| @e_ii.eq_1
  apply Spec.fn Try.func37 rfl
  focus (simp [Try.f37]<;>exact rfl)
  focus
    refine wa_ T (g:=?_)
    obtain ⟨v4,h1,hr⟩:=bs hr
    apply TO.mk e_ii h1 (wn T) rfl rfl so84 zc109 by109 rfl rfl rfl
    repeat exact sd T
    refine wc_ T (g:=?_)
    obtain ⟨v20,h12,hr⟩:=bs hr
    refine TX.loopE (step:=pulse_foldedTo_l1 v1 v2) (x:=(v4,0)) h12 (fun (v5,v6)=>⟨.junk :: .v (.int .i64 v2) :: .junk :: .junk :: .junk :: .lsl 0 0 v5.length :: .junk :: .junk :: .junk :: .junk :: .list 2 (v1.map e_ii) :: .v (.int .i64 (v1.length : Int)) :: .v (.int .i64 v6) :: .junk :: .junk :: .junk :: .junk :: .junk :: .junk :: .junk :: .junk :: .junk :: .junk :: .junk :: .junk :: .junk :: .junk :: .junk :: .junk :: .junk :: .junk :: .junk :: [],[.rows 2 (v5.map e_ii)]⟩) (fun v13=>(.exit 0,⟨.junk :: .junk :: .junk :: .junk :: .junk :: .lsl 0 0 v13.length :: .junk :: .junk :: .junk :: .junk :: .junk :: .junk :: .junk :: .junk :: .junk :: .junk :: .junk :: .junk :: .junk :: .junk :: .junk :: .junk :: .junk :: .junk :: .junk :: .junk :: .junk :: .junk :: .junk :: .junk :: .junk :: .junk :: [],[.rows 2 (v13.map e_ii)]⟩)) ?_ ?_ ?_ ?_
    · rintro ⟨v5,v6⟩ v0 hr
      dsimp only [pulse_foldedTo_l1] at hr
      try dsimp only
      refine wa_ T (g:=?_)
      rcases ifs hr with ⟨h7,hr⟩|⟨h7,hr⟩
      · have T:=an h7 T
        refine wa_ T (g:=?_)
        obtain ⟨⟨v14,v15⟩,h8,hr⟩:=bs hr
        try dsimp only at hr
        have T:=an (gx e_ii h8) T
        refine wA T (g:=?_)
        by_cases h9 : v2 = 0
        · rw [if_pos h9] at hr
          cases hr
        · rw [if_neg h9] at hr
          have T:=an h9 T
          refine wa_ T (g:=?_)
          obtain ⟨⟨v16,v17⟩,h10,hr⟩:=bs hr
          try dsimp only at hr
          have h10m:=tidx_map (f:=e_ii) h10
          have h10l:=getI_lt h10
          try simp only [List.length_set] at h10l
          have h10a:=getI_at h10
          have T:=an h10m T
          have T:=an h10l T
          have T:=an h10a T
          refine wA T (g:=?_)
          obtain ⟨⟨v18,v19⟩,h11,hr⟩:=bs hr
          try dsimp only at hr
          apply TD.cal (wn T) rfl goFn73 (pulse_number_plus_spec h11) rfl rfl rfl
          repeat exact sd T
          refine wa_ T (g:=?_)
          apply TD.sr e_ii v5 (v16,v17) (v18,v19) h10a (wn T) rfl rfl rfl rfl rfl ok109 (by rw [cs109];rfl) rfl rfl rfl rfl rfl
          repeat exact sd T
          refine wa_ T (g:=?_)
          cases hr
          refine ⟨rfl,?_⟩
          exact wk_ T [some 0] rfl (.rows .nil rfl rfl)
      · have T:=an h7 T
        refine wa_ T (g:=?_)
        cases hr
        refine ⟨rfl,?_⟩
        exact wk_ T [some 0] rfl (.rows .nil rfl rfl)
    · intro e h;cases h
    · try dsimp only
      refine wa_ T (g:=?_)
      cases hr
      refine ⟨.inr rfl,_,(ry T),?_⟩
      exact wr [some 0] rfl (.rows .nil rfl rfl)
    · try dsimp only
      exact wr [some 0] rfl (.rows .nil rfl rfl)
  rfl

end Go.Rex

namespace Go.Rex
open Go.Proofs
open Go Go.Rex Go.RowKit
set_option maxRecDepth 100000
set_option maxHeartbeats 200000
theorem pulse_each_3571_spec {v1 : Int} {v2 : (List (Int × Int))} {v3 : Int} {v4 : (List (Int × Int))} (hr : pulse_each_3571 v1 v2 = some (v3,v4)) : Spec (lim Try.prog) 65 [.v (.int .i64 v1),.func 85 [] [.fptr true [.list 2 (v2.map e_ii)] 0]] ⟨[.func 100 [] [.fptr true [.v (.int .i64 v3)] 0,.fptr true [.func 85 [] [.fptr true [.list 2 (v4.map e_ii)] 0]] 0]],[]⟩:=by
  unfold pulse_each_3571 at hr
  have T:=@e_ii.eq_1
  apply Spec.fn Try.func65 rfl
  focus (simp [Try.f65]<;>exact rfl)
  focus
    refine wb_ T (g:=?_)
    cases hr
    refine ⟨.inr rfl,_,(ry T),?_⟩
    exact wr [] rfl .nil
  rfl

end Go.Rex

namespace Go.Rex
open Go.Proofs
open Go Go.Rex Go.RowKit
set_option maxRecDepth 100000
set_option maxHeartbeats 200000
theorem pulse_isSmall_int_spec {v1 : Int} {v2 : Int} {v3 : Bool} (hr : pulse_isSmall_int v1 v2 = some (v3)) : Spec (lim Try.prog) 101 [.v (.int .i64 v1),.v (.int .i64 v2)] ⟨[.v (.bool v3)],[]⟩:=by
  unfold pulse_isSmall_int at hr
  have T:=trivial
  apply Spec.fn Try.func101 rfl
  focus (simp [Try.f101]<;>exact rfl)
  focus
    refine wa_ T (g:=?_)
    apply TO.pop1 (wn T) (pop_neg rfl)
    repeat exact sd T
    refine wa_ T (g:=?_)
    rcases ifs hr with ⟨h1,hr⟩|⟨h1,hr⟩
    · have T:=an h1 T
      refine wa_ T (g:=?_)
      cases hr
      refine ⟨.inr rfl,_,(ry T),?_⟩
      exact wk_ T [] rfl .nil
    · have T:=an h1 T
      refine wa_ T (g:=?_)
      cases hr
      refine ⟨.inr rfl,_,(ry T),?_⟩
      exact wk_ T [] rfl .nil
  rfl

end Go.Rex

namespace Go.Rex
open Go.Proofs
open Go Go.Rex Go.RowKit
set_option maxRecDepth 100000
set_option maxHeartbeats 200000
def y18:=an @ag3 <| an @fd109_0 <| @fd109_1
theorem pulse_number_small_spec {v1 : Int} {v2 : Int} {v3 : Int} {v4 : Bool} {v5 : Int} (hr : pulse_number_small v1 v2 v3 = some (v4,v5)) : Spec (lim Try.prog) 68 [.agg [.v (.int .i64 v1),.v (.int .i64 v2)],.v (.int .i64 v3)] ⟨[.func 98 [] [.fptr true [.v (.bool v4)] 0,.fptr true [.v (.int .i64 v5)] 0]],[]⟩:=by
  unfold pulse_number_small at hr
  have T:=y18
  apply Spec.fn Try.func68 rfl
  focus (simp [Try.f68]<;>exact rfl)
  focus
    refine wB T (g:=?_)
    obtain ⟨v6,h1,hr⟩:=bs hr
    apply TO.cal (wn T) rfl goFn101 (pulse_isSmall_int_spec h1) rfl rfl rfl
    repeat exact sd T
    refine wa_ T (g:=?_)
    apply TO.pop1 (wn T) (pop_not rfl)
    repeat exact sd T
    refine wa_ T (g:=?_)
    rcases ifs hr with ⟨h2,hr⟩|⟨h2,hr⟩
    · have T:=an h2 T
      refine wA T (g:=?_)
      obtain ⟨v7,h3,hr⟩:=bs hr
      apply TO.cal (wn T) rfl goFn101 (pulse_isSmall_int_spec h3) rfl rfl rfl
      repeat exact sd T
      refine wa_ T (g:=?_)
      apply TO.pop1 (wn T) (pop_not rfl)
      repeat exact sd T
      refine wa_ T (g:=?_)
      obtain ⟨⟨v8,v9⟩,h4,hr⟩:=bs hr
      try dsimp only at hr
      apply TO.cal (wn T) rfl goFn55 (pulse_refuse_spec h4) rfl rfl rfl
      repeat exact sd T
      refine wa_ T (g:=?_)
      cases hr
      refine ⟨.inr rfl,_,(ry T),?_⟩
      exact wk_ T [] rfl .nil
    · have T:=an h2 T
      refine wa_ T (g:=?_)
      obtain ⟨⟨v10,v11⟩,h5,hr⟩:=bs hr
      try dsimp only at hr
      apply TO.cal (wn T) rfl goFn55 (pulse_refuse_spec h5) rfl rfl rfl
      repeat exact sd T
      refine wa_ T (g:=?_)
      cases hr
      refine ⟨.inr rfl,_,(ry T),?_⟩
      exact wk_ T [] rfl .nil
  rfl

end Go.Rex

namespace Go.Rex
open Go.Proofs
open Go Go.Rex Go.RowKit
set_option maxRecDepth 100000
set_option maxHeartbeats 200000
def y19:=an @ag109 <| an @ag84 <| an @cs109 <| an @ok109 <| @so84
theorem pulse_recorded_c1_cff2_spec {v1 : Int} {v2 : (List (Int × Int))} {v3 : Int} (hr : pulse_recorded_c1_cff2 v1 v2 = some (v3)) : Spec (lim Try.prog) 85 [.v (.int .i64 v1),.fptr true [.list 2 (v2.map e_ii)] 0] ⟨[.v (.int .i64 v3)],[]⟩:=by
  unfold pulse_recorded_c1_cff2 at hr
  have T:=an y19 <| @e_ii.eq_1
  apply Spec.fn Try.func85 rfl
  focus (simp [Try.f85]<;>exact rfl)
  focus
    refine wA T (g:=?_)
    obtain ⟨⟨v4,v5⟩,h1,hr⟩:=bs hr
    try dsimp only at hr
    have T:=an (gx e_ii h1) T
    refine wA T (g:=?_)
    obtain ⟨⟨v6,v7⟩,h2,hr⟩:=bs hr
    try dsimp only at hr
    apply TO.cal (wn T) rfl goFn68 (pulse_number_small_spec h2) rfl rfl rfl
    repeat exact sd T
    refine wa_ T (g:=?_)
    obtain ⟨v8,h3,hr⟩:=bs hr
    apply TO.cal (wn T) rfl goFn98 (pulse_refuse_c1_11f9_spec h3) rfl rfl rfl
    repeat exact sd T
    refine wa_ T (g:=?_)
    cases hr
    refine ⟨.inr rfl,_,(ry T),?_⟩
    exact wr [] rfl .nil
  rfl

end Go.Rex

namespace Go.Rex
open Go.Proofs
open Go Go.Rex Go.RowKit
set_option maxRecDepth 100000
set_option maxHeartbeats 200000
def y20:=an @ag118 <| an @ag3 <| @wi64_0a1
theorem pulse_each_c1_82ab_spec {v1 : Int} {v2 : (List (Int × Int))} {v3 : Int} (hr : pulse_each_c1_82ab v1 v2 = some (v3)) : Spec (lim Try.prog) 100 [.fptr true [.v (.int .i64 v1)] 0,.fptr true [.func 85 [] [.fptr true [.list 2 (v2.map e_ii)] 0]] 0] ⟨[.v (.int .i64 v3)],[]⟩:=by
  unfold pulse_each_c1_82ab at hr
  have T:=an y20 <| @e_ii.eq_1
  apply Spec.fn Try.func100 rfl
  focus (simp [Try.f100]<;>exact rfl)
  focus
    refine wA T (g:=?_)
    obtain ⟨v8,h7,hr⟩:=bs hr
    refine TX.loopE (step:=pulse_each_c1_82ab_l1 v1 v2) (x:=0) h7 (fun v4=>⟨.junk :: .fptr true [.func 85 [] [.fptr true [.list 2 (v2.map e_ii)] 0]] 0 :: .junk :: .junk :: .junk :: .v (.int .i64 v1) :: .v (.int .i64 v4) :: .junk :: .junk :: .junk :: .junk :: .junk :: .junk :: .junk :: .junk :: .junk :: [],[]⟩) (fun e=>match e with|(.inl v6)=>(.ret,⟨.junk :: .junk :: .v (.int .i64 v6) :: .junk :: .junk :: .junk :: .junk :: .junk :: .junk :: .junk :: .junk :: .junk :: .junk :: .junk :: .junk :: .junk :: [],[]⟩)|(.inr _)=>(.exit 0,⟨.junk :: .junk :: .junk :: .junk :: .junk :: .junk :: .junk :: .junk :: .junk :: .junk :: .junk :: .junk :: .junk :: .junk :: .junk :: .junk :: [],[]⟩)) ?_ ?_ ?_ ?_
    · rintro v4 v0 hr
      dsimp only [pulse_each_c1_82ab_l1] at hr
      try dsimp only
      refine wa_ T (g:=?_)
      rcases ifs hr with ⟨h4,hr⟩|⟨h4,hr⟩
      · have T:=an h4 T
        refine wA T (g:=?_)
        obtain ⟨v7,h5,hr⟩:=bs hr
        apply TO.cal (wn T) rfl goFn85 (pulse_recorded_c1_cff2_spec h5) rfl rfl rfl
        repeat exact sd T
        refine wa_ T (g:=?_)
        rcases ifs hr with ⟨h6,hr⟩|⟨h6,hr⟩
        · have T:=an h6 T
          refine wa_ T (g:=?_)
          cases hr
          refine ⟨rfl,?_⟩
          exact wk_ T [] rfl .nil
        · have T:=an h6 T
          refine wa_ T (g:=?_)
          cases hr
          refine ⟨rfl,?_⟩
          exact wk_ T [] rfl .nil
      · have T:=an h4 T
        refine wa_ T (g:=?_)
        cases hr
        refine ⟨rfl,?_⟩
        exact wk_ T [] rfl .nil
    · intro e h;rcases e with _|e<;>cases h
    · try dsimp only
      rcases v8 with v9|_
      · try dsimp only at hr
        try dsimp only
        refine wa_ T (g:=?_)
        cases hr
        refine ⟨.inr rfl,_,(ry T),?_⟩
        exact wr [] rfl .nil
      · try dsimp only at hr
        try dsimp only
        refine wa_ T (g:=?_)
        cases hr
        refine ⟨.inr rfl,_,(ry T),?_⟩
        exact wr [] rfl .nil
    · try dsimp only
      exact wr [] rfl .nil
  rfl

end Go.Rex

namespace Go.Rex
open Go.Proofs
open Go Go.Rex Go.RowKit
set_option maxRecDepth 100000
set_option maxHeartbeats 200000
def y21:=an @ag109 <| an @ag3 <| an @ag84 <| an @by49 <| an @cs109 <| an @cs49 <| an @fd109_0 <| an @fd109_1 <| an @ni31 <| an @ok109 <| an @so31 <| an @so84 <| an @un3 <| an @un51 <| an @zc109 <| an @zc49 <| @wi64_0a1
theorem pulse_recorded_spec {v1 : (List (Int × Int))} {v2 : (List (Nat × Nat))} {v3 : Int} (hr : pulse_recorded v1 = some (v2,v3)) : Spec (lim Try.prog) 36 [.list 2 (v1.map e_ii)] ⟨[.tuple [.lsl 0 0 v2.length,.v (.int .i64 v3)]],[.rows 1 (v2.map e_c)]⟩:=by
  unfold pulse_recorded at hr
  have T:=an y21 <| an @e_c.eq_1 <| @e_ii.eq_1
  apply Spec.fn Try.func36 rfl
  focus (simp [Try.f36]<;>exact rfl)
  focus
    refine wD T (g:=?_)
    obtain ⟨⟨v4,v5⟩,h1,hr⟩:=bs hr
    try dsimp only at hr
    apply TO.cal (wn T) rfl goFn65 (pulse_each_3571_spec h1) rfl rfl rfl
    repeat exact sd T
    refine wa_ T (g:=?_)
    obtain ⟨v6,h2,hr⟩:=bs hr
    apply TO.cal (wn T) rfl goFn100 (pulse_each_c1_82ab_spec h2) rfl rfl rfl
    repeat exact sd T
    refine wa_ T (g:=?_)
    rcases ifs hr with ⟨h3,hr⟩|⟨h3,hr⟩
    · have T:=an h3 T
      refine wa_ T (g:=?_)
      cases hr
      refine ⟨.inr rfl,_,(ry T),?_⟩
      exact wk_ T [none] rfl (.virt .nil)
    · have T:=an h3 T
      refine wC T (g:=?_)
      apply TX.vt (α:=(Nat × Nat)) e_c 5 1 rfl
      repeat exact sd T
      with_reducible apply TX.here
      refine wa_ T (g:=?_)
      obtain ⟨v16,h10,hr⟩:=bs hr
      refine TX.loopE (step:=pulse_recorded_l1 v1) (x:=(([] : List (Nat × Nat)),0)) h10 (fun (v7,v8)=>⟨.junk :: .junk :: .junk :: .junk :: .junk :: .lsl 0 0 v7.length :: .junk :: .junk :: .junk :: .junk :: .junk :: .junk :: .junk :: .junk :: .junk :: .junk :: .list 2 (v1.map e_ii) :: .v (.int .i64 (v1.length : Int)) :: .v (.int .i64 v8) :: .junk :: .junk :: .junk :: .junk :: .junk :: .junk :: .junk :: .junk :: .junk :: .junk :: .junk :: .junk :: .junk :: .junk :: .junk :: [],[.rows 1 (v7.map e_c)]⟩) (fun v12=>(.exit 0,⟨.junk :: .junk :: .junk :: .junk :: .junk :: .lsl 0 0 v12.length :: .junk :: .junk :: .junk :: .junk :: .junk :: .junk :: .junk :: .junk :: .junk :: .junk :: .junk :: .junk :: .junk :: .junk :: .junk :: .junk :: .junk :: .junk :: .junk :: .junk :: .junk :: .junk :: .junk :: .junk :: .junk :: .junk :: .junk :: .junk :: [],[.rows 1 (v12.map e_c)]⟩)) ?_ ?_ ?_ ?_
      · rintro ⟨v7,v8⟩ v0 hr
        dsimp only [pulse_recorded_l1] at hr
        try dsimp only
        refine wa_ T (g:=?_)
        rcases ifs hr with ⟨h7,hr⟩|⟨h7,hr⟩
        · have T:=an h7 T
          refine wa_ T (g:=?_)
          obtain ⟨⟨v13,v14⟩,h8,hr⟩:=bs hr
          try dsimp only at hr
          have h8m:=tidx_map (f:=e_ii) h8
          have h8l:=getI_lt h8
          try simp only [List.length_set] at h8l
          have h8a:=getI_at h8
          have T:=an h8m T
          have T:=an h8l T
          have T:=an h8a T
          refine wA T (g:=?_)
          apply TO.pop1 (wn T) (cvt_int_float un3 un51 rfl)
          repeat exact sd T
          refine wA T (g:=?_)
          apply TO.pop1 (wn T) (cvt_int_float un3 un51 rfl)
          repeat exact sd T
          refine wa_ T (g:=?_)
          apply TO.pop1 (wn T) (pop_complex rfl rfl)
          repeat exact sd T
          refine wa_ T (g:=?_)
          apply TO.bm e_c ([((FloatKind.f32.nearest v13),(FloatKind.f32.nearest v14))] : List (Nat × Nat)) (wn T) rfl (by simp only [zz,y21,e_c,e_ii,Nat.reduceAdd,Nat.reduceMul,Nat.reduceLeDiff,Nat.reduceEqDiff,tslice,tparts,h3,h7,h8m,h8l,h8a];exact rfl) rfl
          repeat exact sd T
          refine wa_ T (g:=?_)
          obtain ⟨v15,h9,hr⟩:=bs hr
          apply TO.ap (f:=e_c) (xs:=v7) (ys:=([((FloatKind.f32.nearest v13),(FloatKind.f32.nearest v14))] : List (Nat × Nat))) (wn T) rfl rfl (by first|rfl|simp only [List.length_set]) rfl rfl so31 ni31 zc49 rfl (by rw [by49];exact h9) (fun _=>⟨rfl,rfl,rfl⟩)
          repeat exact sd T
          refine wa_ T (g:=?_)
          cases hr
          refine ⟨rfl,?_⟩
          exact wk_ T [some 0] rfl (.rows .nil rfl rfl)
        · have T:=an h7 T
          refine wa_ T (g:=?_)
          cases hr
          refine ⟨rfl,?_⟩
          exact wk_ T [some 0] rfl (.rows .nil rfl rfl)
      · intro e h;cases h
      · try dsimp only
        refine wa_ T (g:=?_)
        cases hr
        refine ⟨.inr rfl,_,(ry T),?_⟩
        exact wk_ T [some 0] rfl (.rows .nil rfl rfl)
      · try dsimp only
        exact wk_ T [some 0] rfl (.rows .nil rfl rfl)
  rfl

end Go.Rex

namespace Go.Rex
open Go.Proofs
open Go Go.Rex Go.RowKit
set_option maxRecDepth 100000
set_option maxHeartbeats 200000
def y22:=an @cs80 <| an @so128 <| @zc80
theorem pulse_Folded_spec {v1 : (List (Nat × Nat))} {v2 : Int} {v3 : (List (Nat × Nat))} {v4 : Int} (hr : pulse_Folded v1 v2 = some (v3,v4)) : Spec (lim Try.prog) 9 [.list 1 (v1.map e_c),.v (.int .i64 v2)] ⟨[.tuple [.lsl 0 0 v3.length,.v (.int .i64 v4)]],[.rows 1 (v3.map e_c)]⟩:=by
  unfold pulse_Folded at hr
  have T:=an y22 <| @e_c.eq_1
  apply Spec.fn Try.func9 rfl
  focus (simp [Try.f9]<;>exact rfl)
  focus
    refine wa_ T (g:=?_)
    obtain ⟨v5,h1,hr⟩:=bs hr
    apply TO.cal (wn T) rfl goFn34 (pulse_listed_spec h1) rfl rfl rfl
    repeat exact sd T
    refine wa_ T (g:=?_)
    obtain ⟨⟨v6,v7⟩,h2,hr⟩:=bs hr
    try dsimp only at hr
    apply TO.cal (wn T) rfl goFn35 (pulse_within_spec h2) rfl rfl rfl
    repeat exact sd T
    refine we_ T (g:=?_)
    obtain ⟨v8,h3,hr⟩:=bs hr
    apply TO.cal (wn T) rfl goFn33 (pulse_firstError_c7bf_spec h3) rfl rfl rfl
    repeat exact sd T
    refine wa_ T (g:=?_)
    rcases ifs hr with ⟨h4,hr⟩|⟨h4,hr⟩
    · have T:=an h4 T
      refine wa_ T (g:=?_)
      cases hr
      refine ⟨.inr rfl,_,(ry T),?_⟩
      exact wk_ T [none] rfl (.virt .nil)
    · have T:=an h4 T
      refine wa_ T (g:=?_)
      obtain ⟨v9,h5,hr⟩:=bs hr
      apply TO.cal (wn T) rfl goFn38 (pulse_numbersOf_spec h5) rfl rfl rfl
      repeat exact sd T
      refine wa_ T (g:=?_)
      obtain ⟨v10,h6,hr⟩:=bs hr
      apply TO.lok (wn T) rfl goFn37 (pulse_foldedTo_spec h6) (vw T) rfl rfl (by simp [clTB,cl,e_ff,e_c,e_ii])
      repeat exact sd T
      refine wa_ T (g:=?_)
      obtain ⟨⟨v11,v12⟩,h7,hr⟩:=bs hr
      try dsimp only at hr
      apply TO.lok (wn T) rfl goFn36 (pulse_recorded_spec h7) (vw T) rfl rfl (by simp [clTB,cl,e_ff,e_c,e_ii])
      repeat exact sd T
      refine wa_ T (g:=?_)
      cases hr
      refine ⟨.inr rfl,_,(ry T),?_⟩
      exact wk_ T [some 2] rfl (.rows .nil rfl rfl)
  rfl

end Go.Rex

namespace Go.Rex
open Go.Proofs
open Go Go.Rex Go.RowKit
set_option maxRecDepth 100000
set_option maxHeartbeats 200000
def y23:=an @by3 <| an @cs3 <| an @ni24 <| an @so24 <| @zc3
theorem base_CopyInts_spec {v1 : (List Int)} {v2 : (List Int)} (hr : base_CopyInts v1 = some (v2)) : Spec (lim Try.prog) 45 [.list 1 (v1.map e_i)] ⟨[.lsl 0 0 v2.length],[.rows 1 (v2.map e_i)]⟩:=by
  unfold base_CopyInts at hr
  have T:=an y23 <| @e_i.eq_1
  apply Spec.fn Try.func45 rfl
  focus (simp [Try.f45]<;>exact rfl)
  focus
    refine wa_ T (g:=?_)
    apply TO.bl e_i ([] : List Int) (wn T) rfl (by simp only [zz,y23,e_i,Nat.reduceAdd,Nat.reduceMul,Nat.reduceLeDiff,Nat.reduceEqDiff,tslice,tparts];exact rfl) rfl rfl
    repeat exact sd T
    refine wa_ T (g:=?_)
    obtain ⟨v3,h1,hr⟩:=bs hr
    apply TO.ap (f:=e_i) (xs:=([] : List Int)) (ys:=v1) (wn T) rfl rfl (by first|rfl|simp only [List.length_set]) rfl rfl so24 ni24 zc3 rfl (by rw [by3];exact h1) (fun _=>⟨rfl,rfl,rfl⟩)
    repeat exact sd T
    refine wa_ T (g:=?_)
    cases hr
    refine ⟨.inr rfl,_,(ry T),?_⟩
    exact wr [some 0] rfl (.rows .nil rfl rfl)
  rfl

end Go.Rex

namespace Go.Rex
open Go.Proofs
open Go Go.Rex Go.RowKit
set_option maxRecDepth 100000
set_option maxHeartbeats 200000
def y24:=an @ag24 <| an @ag26 <| an @ag3 <| an @cs26 <| an @fd26_0 <| an @fd26_1 <| an @ok26 <| an @st26 <| @zc26
theorem ref04_Copy_spec {v1 : Int} {v2 : (List Int)} {v3 : Int} {v4 : (List Int)} (hr : ref04_Copy v1 v2 = some (v3,v4)) : Spec (lim Try.prog) 12 [.agg [.v (.int .i64 v1),.list 1 (v2.map e_i)]] ⟨[.agg [.v (.int .i64 v3),.lsl 0 0 v4.length]],[.rows 1 (v4.map e_i)]⟩:=by
  unfold ref04_Copy at hr
  have T:=an y24 <| @e_i.eq_1
  apply Spec.fn Try.func12 rfl
  focus (simp [Try.f12]<;>exact rfl)
  focus
    refine wB T (g:=?_)
    obtain ⟨v5,h1,hr⟩:=bs hr
    apply TD.cal (wn T) rfl goFn45 (base_CopyInts_spec h1) rfl rfl rfl
    repeat exact sd T
    refine wa_ T (g:=?_)
    cases hr
    refine ⟨.inr rfl,_,(ry T),?_⟩
    exact wr [some 1] rfl (.rows .nil rfl rfl)
  rfl

end Go.Rex

namespace Go.Rex
open Go.Proofs
open Go Go.Rex Go.RowKit
set_option maxRecDepth 100000
set_option maxHeartbeats 200000
theorem pulse_generator_startsAt_spec {v1 : Int} {v2 : (List Int)} {v3 : Int} {v4 : Int} {v5 : Int} {v6 : (List Int)} (hr : pulse_generator_startsAt v1 v2 v3 = some (v4,v5,v6)) : Spec (lim Try.prog) 40 [.agg [.v (.int .i64 v1),.list 1 (v2.map e_i)],.v (.int .i64 v3)] ⟨[.func 87 [] [.fptr true [.v (.int .i64 v4)] 0,.fptr true [.v (.int .i64 v5),.list 1 (v6.map e_i)] 0]],[]⟩:=by
  unfold pulse_generator_startsAt at hr
  have T:=@e_i.eq_1
  apply Spec.fn Try.func40 rfl
  focus (simp [Try.f40]<;>exact rfl)
  focus
    refine wb_ T (g:=?_)
    cases hr
    refine ⟨.inr rfl,_,(ry T),?_⟩
    exact wr [] rfl .nil
  rfl

end Go.Rex

namespace Go.Rex
open Go.Proofs
open Go Go.Rex Go.RowKit
set_option maxRecDepth 100000
set_option maxHeartbeats 200000
theorem pulse_each_e53c_spec {v1 : Int} {v2 : (List Int)} {v3 : Int} {v4 : Int} {v5 : Int} {v6 : (List Int)} {v7 : Int} {v8 : Int} (hr : pulse_each_e53c v1 v2 v3 v4 = some (v5,v6,v7,v8)) : Spec (lim Try.prog) 65 [.v (.int .i64 v1),.func 122 [] [.fptr true [.list 1 (v2.map e_i)] 0,.fptr true [.v (.int .i64 v3)] 0,.fptr true [.v (.int .i64 v4)] 0]] ⟨[.func 100 [] [.fptr true [.v (.int .i64 v5)] 0,.fptr true [.func 122 [] [.fptr true [.list 1 (v6.map e_i)] 0,.fptr true [.v (.int .i64 v7)] 0,.fptr true [.v (.int .i64 v8)] 0]] 0]],[]⟩:=by
  unfold pulse_each_e53c at hr
  have T:=@e_i.eq_1
  apply Spec.fn Try.func65 rfl
  focus (simp [Try.f65]<;>exact rfl)
  focus
    refine wb_ T (g:=?_)
    cases hr
    refine ⟨.inr rfl,_,(ry T),?_⟩
    exact wr [] rfl .nil
  rfl

end Go.Rex

namespace Go.Rex
open Go.Proofs
open Go Go.Rex Go.RowKit
set_option maxRecDepth 100000
set_option maxHeartbeats 200000
def y25:=an @ag24 <| @so24
theorem pulse_ascending_spec {v1 : (List Int)} {v2 : Int} {v3 : Int} {v4 : Int} {v5 : (List Int)} {v6 : Int} {v7 : Int} (hr : pulse_ascending v1 v2 v3 = some (v4,v5,v6,v7)) : Spec (lim Try.prog) 114 [.list 1 (v1.map e_i),.v (.int .i64 v2),.v (.int .i64 v3)] ⟨[.func 100 [] [.fptr true [.v (.int .i64 v4)] 0,.fptr true [.func 122 [] [.fptr true [.list 1 (v5.map e_i)] 0,.fptr true [.v (.int .i64 v6)] 0,.fptr true [.v (.int .i64 v7)] 0]] 0]],[]⟩:=by
  unfold pulse_ascending at hr
  have T:=an y25 <| @e_i.eq_1
  apply Spec.fn Try.func114 rfl
  focus (simp [Try.f114]<;>exact rfl)
  focus
    refine wD T (g:=?_)
    obtain ⟨⟨v8,v9,v10,v11⟩,h1,hr⟩:=bs hr
    try dsimp only at hr
    apply TO.cal (wn T) rfl goFn65 (pulse_each_e53c_spec h1) rfl rfl rfl
    repeat exact sd T
    refine wa_ T (g:=?_)
    cases hr
    refine ⟨.inr rfl,_,(ry T),?_⟩
    exact wr [] rfl .nil
  rfl

end Go.Rex

namespace Go.Rex
open Go.Proofs
open Go Go.Rex Go.RowKit
set_option maxRecDepth 100000
set_option maxHeartbeats 200000
def y26:=an @ag3 <| an @cs3 <| an @ok3 <| an @so24 <| @wi64_0a1
theorem slices_Index_int_int_spec {v1 : (List Int)} {v2 : Int} {v3 : Int} (hr : slices_Index_int_int v1 v2 = some (v3)) : Spec (lim Try.prog) 123 [.list 1 (v1.map e_i),.v (.int .i64 v2)] ⟨[.v (.int .i64 v3)],[]⟩:=by
  unfold slices_Index_int_int at hr
  have T:=an y26 <| @e_i.eq_1
  apply Spec.fn Try.func123 rfl
  focus (simp [Try.f123]<;>exact rfl)
  focus
    refine wc_ T (g:=?_)
    obtain ⟨v8,h7,hr⟩:=bs hr
    refine TX.loopE (step:=slices_Index_int_int_l1 v1 v2) (x:=0) h7 (fun v4=>⟨.list 1 (v1.map e_i) :: .v (.int .i64 v2) :: .junk :: .junk :: .junk :: .junk :: .junk :: .v (.int .i64 (v1.length : Int)) :: .v (.int .i64 v4) :: .junk :: .junk :: .junk :: .junk :: .junk :: .junk :: .junk :: .junk :: .junk :: .junk :: [],[]⟩) (fun e=>match e with|(.inl v6)=>(.ret,⟨.junk :: .junk :: .junk :: .junk :: .v (.int .i64 v6) :: .junk :: .junk :: .junk :: .junk :: .junk :: .junk :: .junk :: .junk :: .junk :: .junk :: .junk :: .junk :: .junk :: .junk :: [],[]⟩)|(.inr _)=>(.exit 0,⟨.junk :: .junk :: .junk :: .junk :: .junk :: .junk :: .junk :: .junk :: .junk :: .junk :: .junk :: .junk :: .junk :: .junk :: .junk :: .junk :: .junk :: .junk :: .junk :: [],[]⟩)) ?_ ?_ ?_ ?_
    · rintro v4 v0 hr
      dsimp only [slices_Index_int_int_l1] at hr
      try dsimp only
      refine wa_ T (g:=?_)
      rcases ifs hr with ⟨h4,hr⟩|⟨h4,hr⟩
      · have T:=an h4 T
        refine wa_ T (g:=?_)
        obtain ⟨v7,h5,hr⟩:=bs hr
        have T:=an (gx e_i h5) T
        refine wA T (g:=?_)
        rcases ifs hr with ⟨h6,hr⟩|⟨h6,hr⟩
        · have T:=an h6 T
          refine wa_ T (g:=?_)
          cases hr
          refine ⟨rfl,?_⟩
          exact wk_ T [] rfl .nil
        · have T:=an h6 T
          refine wa_ T (g:=?_)
          cases hr
          refine ⟨rfl,?_⟩
          exact wk_ T [] rfl .nil
      · have T:=an h4 T
        refine wa_ T (g:=?_)
        cases hr
        refine ⟨rfl,?_⟩
        exact wk_ T [] rfl .nil
    · intro e h;rcases e with _|e<;>cases h
    · try dsimp only
      rcases v8 with v9|_
      · try dsimp only at hr
        try dsimp only
        refine wa_ T (g:=?_)
        cases hr
        refine ⟨.inr rfl,_,(ry T),?_⟩
        exact wr [] rfl .nil
      · try dsimp only at hr
        try dsimp only
        refine wa_ T (g:=?_)
        cases hr
        refine ⟨.inr rfl,_,(ry T),?_⟩
        exact wr [] rfl .nil
    · try dsimp only
      exact wr [] rfl .nil
  rfl

end Go.Rex

namespace Go.Rex
open Go.Proofs
open Go Go.Rex Go.RowKit
set_option maxRecDepth 100000
set_option maxHeartbeats 200000
theorem slices_Contains_int_int_spec {v1 : (List Int)} {v2 : Int} {v3 : Bool} (hr : slices_Contains_int_int v1 v2 = some (v3)) : Spec (lim Try.prog) 115 [.list 1 (v1.map e_i),.v (.int .i64 v2)] ⟨[.v (.bool v3)],[]⟩:=by
  unfold slices_Contains_int_int at hr
  have T:=@e_i.eq_1
  apply Spec.fn Try.func115 rfl
  focus (simp [Try.f115]<;>exact rfl)
  focus
    refine wa_ T (g:=?_)
    obtain ⟨v4,h1,hr⟩:=bs hr
    apply TO.cal (wn T) rfl goFn123 (slices_Index_int_int_spec h1) rfl rfl rfl
    repeat exact sd T
    refine wa_ T (g:=?_)
    cases hr
    refine ⟨.inr rfl,_,(ry T),?_⟩
    exact wr [] rfl .nil
  rfl

end Go.Rex

namespace Go.Rex
open Go.Proofs
open Go Go.Rex Go.RowKit
set_option maxRecDepth 100000
set_option maxHeartbeats 200000
def y27:=an @ag24 <| an @ag3 <| an @cs3 <| an @cs80 <| an @ok3 <| an @so128 <| an @so24 <| @zc80
theorem pulse_ascending_c1_ea58_spec {v1 : Int} {v2 : (List Int)} {v3 : Int} {v4 : Int} {v5 : Int} (hr : pulse_ascending_c1_ea58 v1 v2 v3 v4 = some (v5)) : Spec (lim Try.prog) 122 [.v (.int .i64 v1),.fptr true [.list 1 (v2.map e_i)] 0,.fptr true [.v (.int .i64 v3)] 0,.fptr true [.v (.int .i64 v4)] 0] ⟨[.v (.int .i64 v5)],[]⟩:=by
  unfold pulse_ascending_c1_ea58 at hr
  have T:=an y27 <| @e_i.eq_1
  apply Spec.fn Try.func122 rfl
  focus (simp [Try.f122]<;>exact rfl)
  focus
    refine wA T (g:=?_)
    obtain ⟨v6,h1,hr⟩:=bs hr
    have T:=an (gx e_i h1) T
    refine wA T (g:=?_)
    obtain ⟨⟨v7,v8⟩,h2,hr⟩:=bs hr
    try dsimp only at hr
    apply TD.cal (wn T) rfl goFn35 (pulse_within_spec h2) rfl rfl rfl
    repeat exact sd T
    refine wa_ T (g:=?_)
    rcases ifs hr with ⟨h3,hr⟩|⟨h3,hr⟩
    · have T:=an h3 T
      refine wA T (g:=?_)
      obtain ⟨v9,h4,hr⟩:=bs hr
      have T:=an (gx e_i h4) T
      refine wA T (g:=?_)
      obtain ⟨⟨v10,v11⟩,h5,hr⟩:=bs hr
      try dsimp only at hr
      apply TD.cal (wn T) rfl goFn55 (pulse_refuse_spec h5) rfl rfl rfl
      repeat exact sd T
      refine we_ T (g:=?_)
      obtain ⟨v12,h6,hr⟩:=bs hr
      apply TD.cal (wn T) rfl goFn33 (pulse_firstError_9abe_spec h6) rfl rfl rfl
      repeat exact sd T
      refine wa_ T (g:=?_)
      cases hr
      refine ⟨.inr rfl,_,(ry T),?_⟩
      exact wk_ T [] rfl .nil
    · have T:=an h3 T
      refine wa_ T (g:=?_)
      obtain ⟨⟨v13,v14⟩,h7,hr⟩:=bs hr
      try dsimp only at hr
      apply TD.cal (wn T) rfl goFn55 (pulse_refuse_spec h7) rfl rfl rfl
      repeat exact sd T
      refine we_ T (g:=?_)
      obtain ⟨v15,h8,hr⟩:=bs hr
      apply TD.cal (wn T) rfl goFn33 (pulse_firstError_9abe_spec h8) rfl rfl rfl
      repeat exact sd T
      refine wa_ T (g:=?_)
      cases hr
      refine ⟨.inr rfl,_,(ry T),?_⟩
      exact wk_ T [] rfl .nil
  rfl

end Go.Rex

namespace Go.Rex
open Go.Proofs
open Go Go.Rex Go.RowKit
set_option maxRecDepth 100000
set_option maxHeartbeats 200000
def y28:=an @ag118 <| an @ag3 <| @wi64_0a1
theorem pulse_each_c1_4fde_spec {v1 : Int} {v2 : (List Int)} {v3 : Int} {v4 : Int} {v5 : Int} (hr : pulse_each_c1_4fde v1 v2 v3 v4 = some (v5)) : Spec (lim Try.prog) 100 [.fptr true [.v (.int .i64 v1)] 0,.fptr true [.func 122 [] [.fptr true [.list 1 (v2.map e_i)] 0,.fptr true [.v (.int .i64 v3)] 0,.fptr true [.v (.int .i64 v4)] 0]] 0] ⟨[.v (.int .i64 v5)],[]⟩:=by
  unfold pulse_each_c1_4fde at hr
  have T:=an y28 <| @e_i.eq_1
  apply Spec.fn Try.func100 rfl
  focus (simp [Try.f100]<;>exact rfl)
  focus
    refine wA T (g:=?_)
    obtain ⟨v10,h7,hr⟩:=bs hr
    refine TX.loopE (step:=pulse_each_c1_4fde_l1 v1 v2 v3 v4) (x:=0) h7 (fun v6=>⟨.junk :: .fptr true [.func 122 [] [.fptr true [.list 1 (v2.map e_i)] 0,.fptr true [.v (.int .i64 v3)] 0,.fptr true [.v (.int .i64 v4)] 0]] 0 :: .junk :: .junk :: .junk :: .v (.int .i64 v1) :: .v (.int .i64 v6) :: .junk :: .junk :: .junk :: .junk :: .junk :: .junk :: .junk :: .junk :: .junk :: [],[]⟩) (fun e=>match e with|(.inl v8)=>(.ret,⟨.junk :: .junk :: .v (.int .i64 v8) :: .junk :: .junk :: .junk :: .junk :: .junk :: .junk :: .junk :: .junk :: .junk :: .junk :: .junk :: .junk :: .junk :: [],[]⟩)|(.inr _)=>(.exit 0,⟨.junk :: .junk :: .junk :: .junk :: .junk :: .junk :: .junk :: .junk :: .junk :: .junk :: .junk :: .junk :: .junk :: .junk :: .junk :: .junk :: [],[]⟩)) ?_ ?_ ?_ ?_
    · rintro v6 v0 hr
      dsimp only [pulse_each_c1_4fde_l1] at hr
      try dsimp only
      refine wa_ T (g:=?_)
      rcases ifs hr with ⟨h4,hr⟩|⟨h4,hr⟩
      · have T:=an h4 T
        refine wA T (g:=?_)
        obtain ⟨v9,h5,hr⟩:=bs hr
        apply TO.cal (wn T) rfl goFn122 (pulse_ascending_c1_ea58_spec h5) rfl rfl rfl
        repeat exact sd T
        refine wa_ T (g:=?_)
        rcases ifs hr with ⟨h6,hr⟩|⟨h6,hr⟩
        · have T:=an h6 T
          refine wa_ T (g:=?_)
          cases hr
          refine ⟨rfl,?_⟩
          exact wk_ T [] rfl .nil
        · have T:=an h6 T
          refine wa_ T (g:=?_)
          cases hr
          refine ⟨rfl,?_⟩
          exact wk_ T [] rfl .nil
      · have T:=an h4 T
        refine wa_ T (g:=?_)
        cases hr
        refine ⟨rfl,?_⟩
        exact wk_ T [] rfl .nil
    · intro e h;rcases e with _|e<;>cases h
    · try dsimp only
      rcases v10 with v11|_
      · try dsimp only at hr
        try dsimp only
        refine wa_ T (g:=?_)
        cases hr
        refine ⟨.inr rfl,_,(ry T),?_⟩
        exact wr [] rfl .nil
      · try dsimp only at hr
        try dsimp only
        refine wa_ T (g:=?_)
        cases hr
        refine ⟨.inr rfl,_,(ry T),?_⟩
        exact wr [] rfl .nil
    · try dsimp only
      exact wr [] rfl .nil
  rfl

end Go.Rex

namespace Go.Rex
open Go.Proofs
open Go Go.Rex Go.RowKit
set_option maxRecDepth 100000
set_option maxHeartbeats 1000000
def y29:=an @ag80 <| an @cs80 <| an @ok80 <| an @so128 <| an @wi64_0a1 <| an @wi64_1a1 <| an @wi64_2a1 <| @wi64_3a1
theorem pulse_firstError_6869_spec {v1 : Bool} {v2 : Int} {v3 : Bool} {v4 : Int} {v5 : Int} {v6 : (List Int)} {v7 : Int} {v8 : Int} {v9 : Bool} {v10 : Int} {v11 : Int} (hr : pulse_firstError_6869 v1 v2 v3 v4 v5 v6 v7 v8 v9 v10 = some (v11)) : Spec (lim Try.prog) 33 [.list 1 [[.func 98 [] [.fptr true [.v (.bool v1)] 0,.fptr true [.v (.int .i64 v2)] 0]],[.func 98 [] [.fptr true [.v (.bool v3)] 0,.fptr true [.v (.int .i64 v4)] 0]],[.func 100 [] [.fptr true [.v (.int .i64 v5)] 0,.fptr true [.func 122 [] [.fptr true [.list 1 (v6.map e_i)] 0,.fptr true [.v (.int .i64 v7)] 0,.fptr true [.v (.int .i64 v8)] 0]] 0]],[.func 98 [] [.fptr true [.v (.bool v9)] 0,.fptr true [.v (.int .i64 v10)] 0]]]] ⟨[.v (.int .i64 v11)],[]⟩:=by
  unfold pulse_firstError_6869 at hr
  have T:=an y29 <| @e_i.eq_1
  apply Spec.fn Try.func33 rfl
  focus (simp [Try.f33]<;>exact rfl)
  focus
    refine wc_ T (g:=?_)
    refine TX.unroll ?_
    repeat (first|(with_reducible first|refine mv ?_|refine m12 rfl ?_|refine TO.nil ?_)|((with_reducible first|apply TO.bin|apply TO.ia|apply TO.ld|apply TO.asg|apply TO.mv);(repeat (focus (show _ = _;first|exact k1 rfl|exact k2 rfl|(simp only [zz,y29,e_i,Nat.reduceAdd,Nat.reduceMul,Nat.reduceLeDiff,Nat.reduceEqDiff,tindexAddr,z5,Int.reduceToNat,Int.reduceLE,Int.reduceLT,Int.cast_ofNat_Int,tload,rowOf,partT,List.getElem?_map]<;>exact rfl)|exact rfl)));(with_reducible apply TO.here))|((with_reducible apply TX.region);(focus (simp only [zl]<;>exact rfl));(focus rfl);(try dsimp only))|((with_reducible apply TX.cond_true);(focus rfl);(focus (first|rfl|(simp only [z1,zn];done))))|((with_reducible apply TX.cond_false);(focus rfl);(focus (first|rfl|(simp only [z1,zn];done))))|fail)
    obtain ⟨v12,h1,hr⟩:=bs hr
    apply TO.cal (wn T) rfl goFn98 (pulse_refuse_c1_11f9_spec h1) rfl rfl rfl
    repeat exact sd T
    refine wa_ T (g:=?_)
    rcases ifs hr with ⟨h2,hr⟩|⟨h2,hr⟩
    · have T:=an h2 T
      refine wa_ T (g:=?_)
      cases hr
      refine ⟨.inr rfl,_,(ry T),?_⟩
      exact wk_ T [] rfl .nil
    · have T:=an h2 T
      refine wa_ T (g:=?_)
      refine TX.unroll ?_
      repeat (first|(with_reducible first|refine mv ?_|refine m12 rfl ?_|refine TO.nil ?_)|((with_reducible first|apply TO.bin|apply TO.ia|apply TO.ld|apply TO.asg|apply TO.mv);(repeat (focus (show _ = _;first|exact k1 rfl|exact k2 rfl|(simp only [zz,y29,e_i,Nat.reduceAdd,Nat.reduceMul,Nat.reduceLeDiff,Nat.reduceEqDiff,tindexAddr,z5,Int.reduceToNat,Int.reduceLE,Int.reduceLT,Int.cast_ofNat_Int,tload,rowOf,partT,List.getElem?_map,h2]<;>exact rfl)|exact rfl)));(with_reducible apply TO.here))|((with_reducible apply TX.region);(focus (simp only [zl]<;>exact rfl));(focus rfl);(try dsimp only))|((with_reducible apply TX.cond_true);(focus rfl);(focus (first|rfl|(simp only [z1,zn,h2];done))))|((with_reducible apply TX.cond_false);(focus rfl);(focus (first|rfl|(simp only [z1,zn,h2];done))))|fail)
      obtain ⟨v13,h3,hr⟩:=bs hr
      apply TO.cal (wn T) rfl goFn98 (pulse_refuse_c1_11f9_spec h3) rfl rfl rfl
      repeat exact sd T
      refine wa_ T (g:=?_)
      rcases ifs hr with ⟨h4,hr⟩|⟨h4,hr⟩
      · have T:=an h4 T
        refine wa_ T (g:=?_)
        cases hr
        refine ⟨.inr rfl,_,(ry T),?_⟩
        exact wk_ T [] rfl .nil
      · have T:=an h4 T
        refine wa_ T (g:=?_)
        refine TX.unroll ?_
        repeat (first|(with_reducible first|refine mv ?_|refine m12 rfl ?_|refine TO.nil ?_)|((with_reducible first|apply TO.bin|apply TO.ia|apply TO.ld|apply TO.asg|apply TO.mv);(repeat (focus (show _ = _;first|exact k1 rfl|exact k2 rfl|(simp only [zz,y29,e_i,Nat.reduceAdd,Nat.reduceMul,Nat.reduceLeDiff,Nat.reduceEqDiff,tindexAddr,z5,Int.reduceToNat,Int.reduceLE,Int.reduceLT,Int.cast_ofNat_Int,tload,rowOf,partT,List.getElem?_map,h2,h4]<;>exact rfl)|exact rfl)));(with_reducible apply TO.here))|((with_reducible apply TX.region);(focus (simp only [zl]<;>exact rfl));(focus rfl);(try dsimp only))|((with_reducible apply TX.cond_true);(focus rfl);(focus (first|rfl|(simp only [z1,zn,h2,h4];done))))|((with_reducible apply TX.cond_false);(focus rfl);(focus (first|rfl|(simp only [z1,zn,h2,h4];done))))|fail)
        obtain ⟨v14,h5,hr⟩:=bs hr
        apply TO.cal (wn T) rfl goFn100 (pulse_each_c1_4fde_spec h5) rfl rfl rfl
        repeat exact sd T
        refine wa_ T (g:=?_)
        rcases ifs hr with ⟨h6,hr⟩|⟨h6,hr⟩
        · have T:=an h6 T
          refine wa_ T (g:=?_)
          cases hr
          refine ⟨.inr rfl,_,(ry T),?_⟩
          exact wk_ T [] rfl .nil
        · have T:=an h6 T
          refine wa_ T (g:=?_)
          refine TX.unroll ?_
          repeat (first|(with_reducible first|refine mv ?_|refine m12 rfl ?_|refine TO.nil ?_)|((with_reducible first|apply TO.bin|apply TO.ia|apply TO.ld|apply TO.asg|apply TO.mv);(repeat (focus (show _ = _;first|exact k1 rfl|exact k2 rfl|(simp only [zz,y29,e_i,Nat.reduceAdd,Nat.reduceMul,Nat.reduceLeDiff,Nat.reduceEqDiff,tindexAddr,z5,Int.reduceToNat,Int.reduceLE,Int.reduceLT,Int.cast_ofNat_Int,tload,rowOf,partT,List.getElem?_map,h2,h4,h6]<;>exact rfl)|exact rfl)));(with_reducible apply TO.here))|((with_reducible apply TX.region);(focus (simp only [zl]<;>exact rfl));(focus rfl);(try dsimp only))|((with_reducible apply TX.cond_true);(focus rfl);(focus (first|rfl|(simp only [z1,zn,h2,h4,h6];done))))|((with_reducible apply TX.cond_false);(focus rfl);(focus (first|rfl|(simp only [z1,zn,h2,h4,h6];done))))|fail)
          obtain ⟨v15,h7,hr⟩:=bs hr
          apply TO.cal (wn T) rfl goFn98 (pulse_refuse_c1_11f9_spec h7) rfl rfl rfl
          repeat exact sd T
          refine wa_ T (g:=?_)
          rcases ifs hr with ⟨h8,hr⟩|⟨h8,hr⟩
          · have T:=an h8 T
            refine wa_ T (g:=?_)
            cases hr
            refine ⟨.inr rfl,_,(ry T),?_⟩
            exact wk_ T [] rfl .nil
          · have T:=an h8 T
            refine wa_ T (g:=?_)
            refine TX.unroll ?_
            refine wa_ T (g:=?_)
            cases hr
            refine ⟨.inr rfl,_,(ry T),?_⟩
            exact wk_ T [] rfl .nil
  rfl

end Go.Rex

namespace Go.Rex
open Go.Proofs
open Go Go.Rex Go.RowKit
set_option maxRecDepth 100000
set_option maxHeartbeats 200000
def y30:=an @ag24 <| an @ag3 <| an @cs80 <| an @fd26_0 <| an @fd26_1 <| an @so128 <| an @so24 <| @zc80
theorem pulse_CheckRegister_spec {v1 : Int} {v2 : (List Int)} {v3 : Int} (hr : pulse_CheckRegister v1 v2 = some (v3)) : Spec (lim Try.prog) 86 [.agg [.v (.int .i64 v1),.list 1 (v2.map e_i)]] ⟨[.v (.int .i64 v3)],[]⟩:=by
  unfold pulse_CheckRegister at hr
  have T:=an y30 <| @e_i.eq_1
  apply Spec.fn Try.func86 rfl
  focus (simp [Try.f86]<;>exact rfl)
  focus
    refine wB T (g:=?_)
    obtain ⟨⟨v4,v5⟩,h1,hr⟩:=bs hr
    try dsimp only at hr
    apply TD.cal (wn T) rfl goFn35 (pulse_within_spec h1) rfl rfl rfl
    repeat exact sd T
    refine wC T (g:=?_)
    obtain ⟨⟨v6,v7⟩,h2,hr⟩:=bs hr
    try dsimp only at hr
    apply TD.cal (wn T) rfl goFn55 (pulse_refuse_spec h2) rfl rfl rfl
    repeat exact sd T
    refine wA T (g:=?_)
    obtain ⟨⟨v8,v9,v10,v11⟩,h3,hr⟩:=bs hr
    try dsimp only at hr
    apply TD.cal (wn T) rfl goFn114 (pulse_ascending_spec h3) rfl rfl rfl
    repeat exact sd T
    refine wA T (g:=?_)
    obtain ⟨v12,h4,hr⟩:=bs hr
    apply TD.cal (wn T) rfl goFn115 (slices_Contains_int_int_spec h4) rfl rfl rfl
    repeat exact sd T
    refine wa_ T (g:=?_)
    apply TD.pop1 (wn T) (pop_not rfl)
    repeat exact sd T
    refine wa_ T (g:=?_)
    obtain ⟨⟨v13,v14⟩,h5,hr⟩:=bs hr
    try dsimp only at hr
    apply TD.cal (wn T) rfl goFn55 (pulse_refuse_spec h5) rfl rfl rfl
    repeat exact sd T
    refine we_ T (g:=?_)
    obtain ⟨v15,h6,hr⟩:=bs hr
    apply TD.cal (wn T) rfl goFn33 (pulse_firstError_6869_spec h6) rfl rfl rfl
    repeat exact sd T
    refine wa_ T (g:=?_)
    cases hr
    refine ⟨.inr rfl,_,(ry T),?_⟩
    exact wr [] rfl .nil
  rfl

end Go.Rex

namespace Go.Rex
open Go.Proofs
open Go Go.Rex Go.RowKit
set_option maxRecDepth 100000
set_option maxHeartbeats 200000
def y31:=an @ag26 <| an @cs26 <| an @fd88_0 <| @ok26
theorem pulse_generator_check_spec {v1 : Int} {v2 : (List Int)} {v3 : Int} (hr : pulse_generator_check v1 v2 = some (v3)) : Spec (lim Try.prog) 39 [.agg [.v (.int .i64 v1),.list 1 (v2.map e_i)]] ⟨[.v (.int .i64 v3)],[]⟩:=by
  unfold pulse_generator_check at hr
  have T:=an y31 <| @e_i.eq_1
  apply Spec.fn Try.func39 rfl
  focus (simp [Try.f39]<;>exact rfl)
  focus
    refine wB T (g:=?_)
    obtain ⟨v4,h1,hr⟩:=bs hr
    apply TO.cal (wn T) rfl goFn86 (pulse_CheckRegister_spec h1) rfl rfl rfl
    repeat exact sd T
    refine wa_ T (g:=?_)
    cases hr
    refine ⟨.inr rfl,_,(ry T),?_⟩
    exact wr [] rfl .nil
  rfl

end Go.Rex

namespace Go.Rex
open Go.Proofs
open Go Go.Rex Go.RowKit
set_option maxRecDepth 100000
set_option maxHeartbeats 200000
def y32:=an @ag3 <| an @fd26_0 <| @fd88_0
theorem pulse_generator_fullPeriod_spec {v1 : Int} {v2 : (List Int)} {v3 : Int} (hr : pulse_generator_fullPeriod v1 v2 = some (v3)) : Spec (lim Try.prog) 41 [.agg [.v (.int .i64 v1),.list 1 (v2.map e_i)]] ⟨[.v (.int .i64 v3)],[]⟩:=by
  unfold pulse_generator_fullPeriod at hr
  have T:=an y32 <| @e_i.eq_1
  apply Spec.fn Try.func41 rfl
  focus (simp [Try.f41]<;>exact rfl)
  focus
    refine wB T (g:=?_)
    obtain ⟨v4,h1,hr⟩:=bs hr
    apply TO.pop1 (wn T) (pop_shift rfl rfl (by decide) (h1))
    repeat exact sd T
    refine wa_ T (g:=?_)
    cases hr
    refine ⟨.inr rfl,_,(ry T),?_⟩
    exact wr [] rfl .nil
  rfl

end Go.Rex

namespace Go.Rex
open Go.Proofs
open Go Go.Rex Go.RowKit
set_option maxRecDepth 100000
set_option maxHeartbeats 200000
def y33:=an @ag3 <| an @ag88 <| an @cs88 <| @ok88
theorem pulse_generator_startsAt_c1_63b1_spec {v1 : Int} {v2 : Int} {v3 : (List Int)} {v4 : Int} (hr : pulse_generator_startsAt_c1_63b1 v1 v2 v3 = some (v4)) : Spec (lim Try.prog) 87 [.fptr true [.v (.int .i64 v1)] 0,.fptr true [.v (.int .i64 v2),.list 1 (v3.map e_i)] 0] ⟨[.v (.int .i64 v4)],[]⟩:=by
  unfold pulse_generator_startsAt_c1_63b1 at hr
  have T:=an y33 <| @e_i.eq_1
  apply Spec.fn Try.func87 rfl
  focus (simp [Try.f87]<;>exact rfl)
  focus
    refine wA T (g:=?_)
    obtain ⟨v5,h1,hr⟩:=bs hr
    apply TD.cal (wn T) rfl goFn41 (pulse_generator_fullPeriod_spec h1) rfl rfl rfl
    repeat exact sd T
    refine wa_ T (g:=?_)
    obtain ⟨⟨v6,v7⟩,h2,hr⟩:=bs hr
    try dsimp only at hr
    apply TD.cal (wn T) rfl goFn35 (pulse_within_spec h2) rfl rfl rfl
    repeat exact sd T
    refine wa_ T (g:=?_)
    obtain ⟨v8,h3,hr⟩:=bs hr
    apply TD.cal (wn T) rfl goFn98 (pulse_refuse_c1_11f9_spec h3) rfl rfl rfl
    repeat exact sd T
    refine wa_ T (g:=?_)
    cases hr
    refine ⟨.inr rfl,_,(ry T),?_⟩
    exact wr [] rfl .nil
  rfl

end Go.Rex

namespace Go.Rex
open Go.Proofs
open Go Go.Rex Go.RowKit
set_option maxRecDepth 100000
set_option maxHeartbeats 200000
def y34:=an @ag80 <| an @cs80 <| an @ok80 <| an @so128 <| an @wi64_0a1 <| an @wi64_1a1 <| @wi64_2a1
theorem pulse_firstError_cdf6_spec {v1 : (List (Nat × Nat))} {v2 : Int} {v3 : (List Int)} {v4 : Int} {v5 : Int} {v6 : (List Int)} {v7 : Int} (hr : pulse_firstError_cdf6 v1 v2 v3 v4 v5 v6 = some (v7)) : Spec (lim Try.prog) 33 [.list 1 [[.func 82 [] [.fptr true [.list 1 (v1.map e_c)] 0]],[.func 39 [.agg [.v (.int .i64 v2),.list 1 (v3.map e_i)]] []],[.func 87 [] [.fptr true [.v (.int .i64 v4)] 0,.fptr true [.v (.int .i64 v5),.list 1 (v6.map e_i)] 0]]]] ⟨[.v (.int .i64 v7)],[]⟩:=by
  unfold pulse_firstError_cdf6 at hr
  have T:=an y34 <| an @e_c.eq_1 <| @e_i.eq_1
  apply Spec.fn Try.func33 rfl
  focus (simp [Try.f33]<;>exact rfl)
  focus
    refine wc_ T (g:=?_)
    refine TX.unroll ?_
    repeat (first|(with_reducible first|refine mv ?_|refine m12 rfl ?_|refine TO.nil ?_)|((with_reducible first|apply TO.bin|apply TO.ia|apply TO.ld|apply TO.asg|apply TO.mv);(repeat (focus (show _ = _;first|exact k1 rfl|exact k2 rfl|(simp only [zz,y34,e_c,e_i,Nat.reduceAdd,Nat.reduceMul,Nat.reduceLeDiff,Nat.reduceEqDiff,tindexAddr,z5,Int.reduceToNat,Int.reduceLE,Int.reduceLT,Int.cast_ofNat_Int,tload,rowOf,partT,List.getElem?_map]<;>exact rfl)|exact rfl)));(with_reducible apply TO.here))|((with_reducible apply TX.region);(focus (simp only [zl]<;>exact rfl));(focus rfl);(try dsimp only))|((with_reducible apply TX.cond_true);(focus rfl);(focus (first|rfl|(simp only [z1,zn];done))))|((with_reducible apply TX.cond_false);(focus rfl);(focus (first|rfl|(simp only [z1,zn];done))))|fail)
    obtain ⟨v8,h1,hr⟩:=bs hr
    apply TO.cal (wn T) rfl goFn82 (pulse_listed_c1_f1d2_spec h1) rfl rfl rfl
    repeat exact sd T
    refine wa_ T (g:=?_)
    rcases ifs hr with ⟨h2,hr⟩|⟨h2,hr⟩
    · have T:=an h2 T
      refine wa_ T (g:=?_)
      cases hr
      refine ⟨.inr rfl,_,(ry T),?_⟩
      exact wk_ T [] rfl .nil
    · have T:=an h2 T
      refine wa_ T (g:=?_)
      refine TX.unroll ?_
      repeat (first|(with_reducible first|refine mv ?_|refine m12 rfl ?_|refine TO.nil ?_)|((with_reducible first|apply TO.bin|apply TO.ia|apply TO.ld|apply TO.asg|apply TO.mv);(repeat (focus (show _ = _;first|exact k1 rfl|exact k2 rfl|(simp only [zz,y34,e_c,e_i,Nat.reduceAdd,Nat.reduceMul,Nat.reduceLeDiff,Nat.reduceEqDiff,tindexAddr,z5,Int.reduceToNat,Int.reduceLE,Int.reduceLT,Int.cast_ofNat_Int,tload,rowOf,partT,List.getElem?_map,h2]<;>exact rfl)|exact rfl)));(with_reducible apply TO.here))|((with_reducible apply TX.region);(focus (simp only [zl]<;>exact rfl));(focus rfl);(try dsimp only))|((with_reducible apply TX.cond_true);(focus rfl);(focus (first|rfl|(simp only [z1,zn,h2];done))))|((with_reducible apply TX.cond_false);(focus rfl);(focus (first|rfl|(simp only [z1,zn,h2];done))))|fail)
      obtain ⟨v9,h3,hr⟩:=bs hr
      apply TO.cal (wn T) rfl goFn39 (pulse_generator_check_spec h3) rfl rfl rfl
      repeat exact sd T
      refine wa_ T (g:=?_)
      rcases ifs hr with ⟨h4,hr⟩|⟨h4,hr⟩
      · have T:=an h4 T
        refine wa_ T (g:=?_)
        cases hr
        refine ⟨.inr rfl,_,(ry T),?_⟩
        exact wk_ T [] rfl .nil
      · have T:=an h4 T
        refine wa_ T (g:=?_)
        refine TX.unroll ?_
        repeat (first|(with_reducible first|refine mv ?_|refine m12 rfl ?_|refine TO.nil ?_)|((with_reducible first|apply TO.bin|apply TO.ia|apply TO.ld|apply TO.asg|apply TO.mv);(repeat (focus (show _ = _;first|exact k1 rfl|exact k2 rfl|(simp only [zz,y34,e_c,e_i,Nat.reduceAdd,Nat.reduceMul,Nat.reduceLeDiff,Nat.reduceEqDiff,tindexAddr,z5,Int.reduceToNat,Int.reduceLE,Int.reduceLT,Int.cast_ofNat_Int,tload,rowOf,partT,List.getElem?_map,h2,h4]<;>exact rfl)|exact rfl)));(with_reducible apply TO.here))|((with_reducible apply TX.region);(focus (simp only [zl]<;>exact rfl));(focus rfl);(try dsimp only))|((with_reducible apply TX.cond_true);(focus rfl);(focus (first|rfl|(simp only [z1,zn,h2,h4];done))))|((with_reducible apply TX.cond_false);(focus rfl);(focus (first|rfl|(simp only [z1,zn,h2,h4];done))))|fail)
        obtain ⟨v10,h5,hr⟩:=bs hr
        apply TO.cal (wn T) rfl goFn87 (pulse_generator_startsAt_c1_63b1_spec h5) rfl rfl rfl
        repeat exact sd T
        refine wa_ T (g:=?_)
        rcases ifs hr with ⟨h6,hr⟩|⟨h6,hr⟩
        · have T:=an h6 T
          refine wa_ T (g:=?_)
          cases hr
          refine ⟨.inr rfl,_,(ry T),?_⟩
          exact wk_ T [] rfl .nil
        · have T:=an h6 T
          refine wa_ T (g:=?_)
          refine TX.unroll ?_
          refine wa_ T (g:=?_)
          cases hr
          refine ⟨.inr rfl,_,(ry T),?_⟩
          exact wk_ T [] rfl .nil
  rfl

end Go.Rex

namespace Go.Rex
open Go.Proofs
open Go Go.Rex Go.RowKit
set_option maxRecDepth 100000
set_option maxHeartbeats 200000
theorem pulse_generator_states_spec {v1 : Int} {v2 : (List Int)} {v3 : Int} {v4 : Int} {v5 : Int} {v6 : (List Int)} (hr : pulse_generator_states v1 v2 v3 = some (v4,v5,v6)) : Spec (lim Try.prog) 104 [.agg [.v (.int .i64 v1),.list 1 (v2.map e_i)],.v (.int .i64 v3)] ⟨[.func 116 [] [.fptr true [.v (.int .i64 v4)] 0,.fptr true [.v (.int .i64 v5),.list 1 (v6.map e_i)] 0]],[]⟩:=by
  unfold pulse_generator_states at hr
  have T:=@e_i.eq_1
  apply Spec.fn Try.func104 rfl
  focus (simp [Try.f104]<;>exact rfl)
  focus
    refine wb_ T (g:=?_)
    cases hr
    refine ⟨.inr rfl,_,(ry T),?_⟩
    exact wr [] rfl .nil
  rfl

end Go.Rex

namespace Go.Rex
open Go.Proofs
open Go Go.Rex Go.RowKit
set_option maxRecDepth 100000
set_option maxHeartbeats 200000
def y35:=an @ag24 <| an @ag3 <| an @cs3 <| an @fd26_0 <| an @fd26_1 <| an @fd88_0 <| an @ok3 <| an @so24 <| @wi64_0a1
theorem pulse_generator_next_spec {v1 : Int} {v2 : (List Int)} {v3 : Int} {v4 : Int} (hr : pulse_generator_next v1 v2 v3 = some (v4)) : Spec (lim Try.prog) 117 [.agg [.v (.int .i64 v1),.list 1 (v2.map e_i)],.v (.int .i64 v3)] ⟨[.v (.int .i64 v4)],[]⟩:=by
  unfold pulse_generator_next at hr
  have T:=an y35 <| @e_i.eq_1
  apply Spec.fn Try.func117 rfl
  focus (simp [Try.f117]<;>exact rfl)
  focus
    refine wD T (g:=?_)
    obtain ⟨v12,h7,hr⟩:=bs hr
    refine TX.loopE (step:=pulse_generator_next_l1 v1 v2 v3) (x:=(0,0)) h7 (fun (v5,v6)=>⟨.junk :: .v (.int .i64 v3) :: .fptr true [.v (.int .i64 v1),.list 1 (v2.map e_i)] 0 :: .junk :: .junk :: .v (.int .i64 v5) :: .junk :: .junk :: .junk :: .junk :: .list 1 (v2.map e_i) :: .v (.int .i64 (v2.length : Int)) :: .v (.int .i64 v6) :: .junk :: .junk :: .junk :: .junk :: .junk :: .junk :: .junk :: .junk :: .junk :: .junk :: .junk :: .junk :: .junk :: .junk :: .junk :: .junk :: .junk :: .junk :: .junk :: .junk :: .junk :: .junk :: .junk :: [],[]⟩) (fun v9=>(.exit 0,⟨.junk :: .v (.int .i64 v3) :: .fptr true [.v (.int .i64 v1),.list 1 (v2.map e_i)] 0 :: .junk :: .junk :: .v (.int .i64 v9) :: .junk :: .junk :: .junk :: .junk :: .junk :: .junk :: .junk :: .junk :: .junk :: .junk :: .junk :: .junk :: .junk :: .junk :: .junk :: .junk :: .junk :: .junk :: .junk :: .junk :: .junk :: .junk :: .junk :: .junk :: .junk :: .junk :: .junk :: .junk :: .junk :: .junk :: [],[]⟩)) ?_ ?_ ?_ ?_
    · rintro ⟨v5,v6⟩ v0 hr
      dsimp only [pulse_generator_next_l1] at hr
      try dsimp only
      refine wa_ T (g:=?_)
      rcases ifs hr with ⟨h4,hr⟩|⟨h4,hr⟩
      · have T:=an h4 T
        refine wa_ T (g:=?_)
        obtain ⟨v10,h5,hr⟩:=bs hr
        have T:=an (gx e_i h5) T
        refine wA T (g:=?_)
        obtain ⟨v11,h6,hr⟩:=bs hr
        apply TO.pop1 (wn T) (pop_shift rfl rfl (by decide) (h6))
        repeat exact sd T
        refine wa_ T (g:=?_)
        apply TO.pop1 (wn T) (pop_bits rfl rfl (by decide))
        repeat exact sd T
        refine wa_ T (g:=?_)
        apply TO.pop1 (wn T) (pop_bits rfl rfl (by decide))
        repeat exact sd T
        refine wa_ T (g:=?_)
        cases hr
        refine ⟨rfl,?_⟩
        exact wk_ T [] rfl .nil
      · have T:=an h4 T
        refine wa_ T (g:=?_)
        cases hr
        refine ⟨rfl,?_⟩
        exact wk_ T [] rfl .nil
    · intro e h;cases h
    · try dsimp only
      refine wa_ T (g:=?_)
      obtain ⟨v13,h8,hr⟩:=bs hr
      apply TO.pop1 (wn T) (pop_shift rfl rfl (by decide) (h8))
      repeat exact sd T
      refine wA T (g:=?_)
      obtain ⟨v14,h9,hr⟩:=bs hr
      apply TO.pop1 (wn T) (pop_shift rfl rfl (by decide) (h9))
      repeat exact sd T
      refine wa_ T (g:=?_)
      apply TO.pop1 (wn T) (pop_bits rfl rfl (by decide))
      repeat exact sd T
      refine wa_ T (g:=?_)
      cases hr
      refine ⟨.inr rfl,_,(ry T),?_⟩
      exact wr [] rfl .nil
    · try dsimp only
      exact wr [] rfl .nil
  rfl

end Go.Rex

namespace Go.Rex
open Go.Proofs
open Go Go.Rex Go.RowKit
set_option maxRecDepth 100000
set_option maxHeartbeats 200000
def y36:=an @ag3 <| an @ag88 <| an @cs88 <| @ok88
theorem pulse_generator_states_c1_3283_ispec {v1 : Int} {v2 : Int} {v3 : (List Int)} : ISpec (lim Try.prog) 116 [] [.fptr true [.v (.int .i64 v1)] 0,.fptr true [.v (.int .i64 v2),.list 1 (v3.map e_i)] 0] (fun a0=>[.v (.int .i64 a0)]) (fun {X}=>pulse_generator_states_c1_3283_it (X:=X) v1 v2 v3):=by
  refine ISpec.fn (tms:=fun l=>[.v (.func (.yield l) #[] #[]),.fptr true [.v (.int .i64 v1)] 0,.fptr true [.v (.int .i64 v2),.list 1 (v3.map e_i)] 0,.junk,.junk,.junk,.junk,.junk,.junk,.junk,.junk,.junk]) Try.func116 rfl rfl (fun l=>by simp [Try.f116]<;>exact rfl) ?_
  intro X O l H v4 xx hY hr
  dsimp only [pulse_generator_states_c1_3283_it] at hr
  try dsimp only
  repeat (first|(with_reducible first|refine mv ?_|refine m12 rfl ?_)|fail)
  refine TI.of ?_
  repeat (first|(with_reducible first|refine mv ?_|refine m12 rfl ?_|refine TO.nil ?_)|((with_reducible first|apply TO.ld|apply TO.asg);(repeat (focus (show _ = _;first|exact k1 rfl|exact k2 rfl|(simp only [zz,y36,e_i,Nat.reduceAdd,Nat.reduceMul,Nat.reduceLeDiff,Nat.reduceEqDiff,tload,rowOf,partT,List.getElem?_map]<;>exact rfl)|exact rfl)));(with_reducible apply TO.here))|((with_reducible apply TX.region);(focus (simp only [zl]<;>exact rfl));(focus rfl);(try dsimp only))|fail)
  refine ⟨[.v (.func (.yield l) #[] #[]),.fptr true [.v (.int .i64 v1)] 0,.fptr true [.v (.int .i64 v2),.list 1 (v3.map e_i)] 0,.junk,.v (.int .i64 v1),.v (.int .i64 v1),.junk,.junk,.junk,.junk,.junk,.junk],?_,?_⟩
  · exact wr [] rfl .nil
  repeat (first|(with_reducible first|refine mv ?_|refine m12 rfl ?_)|fail)
  obtain ⟨v14,h7,hr⟩:=Option.bind_eq_some_iff.1 hr
  try dsimp only at hr
  refine TI.loopW (step:=pulse_generator_states_c1_3283_l1 H v2 v3) (y:=(v1,v4)) h7 (fun (v5,v6)=>([.v (.func (.yield l) #[] #[]),.junk,.fptr true [.v (.int .i64 v2),.list 1 (v3.map e_i)] 0,.junk,.v (.int .i64 v5),.junk,.junk,.junk,.junk,.junk,.junk,.junk],v6)) (fun v10=>(.exit 0,([.junk,.junk,.junk,.junk,.junk,.junk,.junk,.junk,.junk,.junk,.junk,.junk],v10))) ?_ rfl ?_ ?_ ?_
  · try dsimp only
    exact wr [] rfl .nil
  · rintro ⟨v5,v6⟩ v0 hr
    dsimp only [pulse_generator_states_c1_3283_l1] at hr
    try dsimp only
    repeat (first|(with_reducible first|refine mv ?_|refine m12 rfl ?_)|fail)
    refine TI.yield 2 hY (by simp only [zl]<;>exact rfl) (by simp only [List.take_succ_cons,List.take_zero]<;>exact rfl) (by exact rfl) ⟨⟨_,_,_,_,_,rfl⟩⟩ rfl ?_
    try dsimp only
    repeat (first|(with_reducible first|refine mv ?_|refine m12 rfl ?_|refine TO.nil ?_)|((with_reducible first|apply TO.mv);(repeat (focus (show _ = _;first|exact k1 rfl|exact k2 rfl|(simp only [zz,y36,e_i,Nat.reduceAdd,Nat.reduceMul,Nat.reduceLeDiff,Nat.reduceEqDiff]<;>exact rfl)|exact rfl)));(with_reducible apply TO.here))|((with_reducible apply TX.region);(focus (simp only [zl]<;>exact rfl));(focus rfl);(try dsimp only))|fail)
    obtain ⟨⟨v11,v12⟩,h4,hr⟩:=Option.bind_eq_some_iff.1 hr
    try dsimp only at hr
    refine ⟨[.v (.func (.yield l) #[] #[]),.junk,.fptr true [.v (.int .i64 v2),.list 1 (v3.map e_i)] 0,.junk,.v (.int .i64 v5),.junk,.v (.func (.yield l) #[] #[]),.v (.int .i64 v5),.junk,.junk,.junk,.junk],?_,.inl ⟨v5,v11,v12,by first|rfl|(simp only [twant,z1,z7]<;>rfl),rfl,rfl,h4,?_⟩⟩
    · exact wr [] rfl .nil
    show TO _ _ _ _ ⟨.v (.func (.yield l) #[] #[]) :: .junk :: .fptr true [.v (.int .i64 v2),.list 1 (v3.map e_i)] 0 :: .junk :: .v (.int .i64 v5) :: .junk :: .v (.func (.yield l) #[] #[]) :: .v (.int .i64 v5) :: .v (.bool v11) :: .junk :: .junk :: .junk :: [],[]⟩ _
    repeat (first|(with_reducible first|refine mv ?_|refine m12 rfl ?_|refine TO.nil ?_)|((with_reducible apply TX.region);(focus (simp only [zl]<;>exact rfl));(focus rfl);(try dsimp only))|fail)
    refine ⟨[.v (.func (.yield l) #[] #[]),.junk,.fptr true [.v (.int .i64 v2),.list 1 (v3.map e_i)] 0,.junk,.v (.int .i64 v5),.junk,.v (.func (.yield l) #[] #[]),.v (.int .i64 v5),.v (.bool v11),.junk,.junk,.junk],?_,?_⟩
    · exact wr [] rfl .nil
    repeat (first|(with_reducible first|refine mv ?_|refine m12 rfl ?_)|((with_reducible apply TX.cond_true);(focus rfl);(focus (first|rfl|(simp only [z1,zn];done))))|((with_reducible apply TX.cond_false);(focus rfl);(focus (first|rfl|(simp only [z1,zn];done))))|((with_reducible apply TI.cond_true);(focus rfl);(focus (first|rfl|(simp only [z1,zn];done))))|((with_reducible apply TI.cond_false);(focus rfl);(focus (first|rfl|(simp only [z1,zn];done))))|fail)
    rcases Bool.eq_false_or_eq_true (v11) with h5|h5
    · rw [if_pos h5] at hr
      repeat (first|(with_reducible first|refine mv ?_|refine m12 rfl ?_)|((with_reducible apply TX.cond_true);(focus rfl);(focus (first|rfl|(simp only [z1,zn,h5];done))))|((with_reducible apply TX.cond_false);(focus rfl);(focus (first|rfl|(simp only [z1,zn,h5];done))))|((with_reducible apply TI.cond_true);(focus rfl);(focus (first|rfl|(simp only [z1,zn,h5];done))))|((with_reducible apply TI.cond_false);(focus rfl);(focus (first|rfl|(simp only [z1,zn,h5];done))))|fail)
      refine TI.of ?_
      repeat (first|(with_reducible first|refine mv ?_|refine m12 rfl ?_|refine TO.nil ?_)|((with_reducible first|apply TO.ld|apply TO.mv);(repeat (focus (show _ = _;first|exact k1 rfl|exact k2 rfl|(simp only [zz,y36,e_i,Nat.reduceAdd,Nat.reduceMul,Nat.reduceLeDiff,Nat.reduceEqDiff,tload,rowOf,partT,List.getElem?_map,h5]<;>exact rfl)|exact rfl)));(with_reducible apply TO.here))|((with_reducible apply TX.region);(focus (simp only [zl]<;>exact rfl));(focus rfl);(try dsimp only))|fail)
      obtain ⟨v13,h6,hr⟩:=Option.bind_eq_some_iff.1 hr
      try dsimp only at hr
      apply TO.cal (by first|rfl|(simp only [twant,z1,z7,h5]<;>rfl)) rfl goFn117 (pulse_generator_next_spec h6) rfl rfl rfl
      (repeat (focus (show _ = _;first|exact k1 rfl|exact k2 rfl|(simp only [zz,y36,e_i,Nat.reduceAdd,Nat.reduceMul,Nat.reduceLeDiff,Nat.reduceEqDiff,shift,kill,killB,frz,frzB,view,tml,tmlc,List.length_set,h5]<;>exact rfl)|exact rfl)))
      with_reducible apply TO.here
      repeat (first|(with_reducible first|refine mv ?_|refine m12 rfl ?_|refine TO.nil ?_)|((with_reducible first|apply TO.asg);(repeat (focus (show _ = _;first|exact k1 rfl|exact k2 rfl|(simp only [zz,y36,e_i,Nat.reduceAdd,Nat.reduceMul,Nat.reduceLeDiff,Nat.reduceEqDiff,h5]<;>exact rfl)|exact rfl)));(with_reducible apply TO.here))|((with_reducible apply TX.region);(focus (simp only [zl]<;>exact rfl));(focus rfl);(try dsimp only))|fail)
      refine ⟨[.v (.func (.yield l) #[] #[]),.junk,.fptr true [.v (.int .i64 v2),.list 1 (v3.map e_i)] 0,.junk,.v (.int .i64 v13),.junk,.v (.func (.yield l) #[] #[]),.v (.int .i64 v5),.v (.bool v11),.agg [.v (.int .i64 v2),.list 1 (v3.map e_i)],.v (.int .i64 v5),.v (.int .i64 v13)],?_,?_⟩
      · exact Wk.ren [] rfl .nil (by (repeat (first|exact RNs.nil|refine RNs.cons .junk ?_|refine RNs.cons (.keep rfl rfl) ?_|refine RNs.cons (.lsl rfl rfl) ?_|refine RNs.cons (.lsl rfl (by simp only [List.length_set])) ?_|refine RNs.cons (.lptr rfl) ?_|refine RNs.cons (.nil rfl) ?_|refine RNs.cons .nl ?_|refine RNs.cons (.keep (by simp only [h5]) rfl) ?_|refine RNs.cons (.tuple' ?_) ?_|refine RNs.cons (.agg' ?_) ?_)))
      repeat (first|(with_reducible first|refine mv ?_|refine m12 rfl ?_)|fail)
      cases hr
      refine ⟨rfl,?_,rfl⟩
      exact Wk.ren [] rfl .nil (by (repeat (first|exact RNs.nil|refine RNs.cons .junk ?_|refine RNs.cons (.keep rfl rfl) ?_|refine RNs.cons (.lsl rfl rfl) ?_|refine RNs.cons (.lsl rfl (by simp only [List.length_set])) ?_|refine RNs.cons (.lptr rfl) ?_|refine RNs.cons (.nil rfl) ?_|refine RNs.cons .nl ?_|refine RNs.cons (.keep (by simp only [h5]) rfl) ?_|refine RNs.cons (.tuple' ?_) ?_|refine RNs.cons (.agg' ?_) ?_)))
    · rw [if_neg (by rw [h5];exact Bool.false_ne_true)] at hr
      repeat (first|(with_reducible first|refine mv ?_|refine m12 rfl ?_)|((with_reducible apply TX.cond_true);(focus rfl);(focus (first|rfl|(simp only [z1,zn,h5];done))))|((with_reducible apply TX.cond_false);(focus rfl);(focus (first|rfl|(simp only [z1,zn,h5];done))))|((with_reducible apply TI.cond_true);(focus rfl);(focus (first|rfl|(simp only [z1,zn,h5];done))))|((with_reducible apply TI.cond_false);(focus rfl);(focus (first|rfl|(simp only [z1,zn,h5];done))))|fail)
      cases hr
      refine ⟨rfl,?_,rfl⟩
      exact Wk.ren [] rfl .nil (by (repeat (first|exact RNs.nil|refine RNs.cons .junk ?_|refine RNs.cons (.keep rfl rfl) ?_|refine RNs.cons (.lsl rfl rfl) ?_|refine RNs.cons (.lsl rfl (by simp only [List.length_set])) ?_|refine RNs.cons (.lptr rfl) ?_|refine RNs.cons (.nil rfl) ?_|refine RNs.cons .nl ?_|refine RNs.cons (.keep (by simp only [h5]) rfl) ?_|refine RNs.cons (.tuple' ?_) ?_|refine RNs.cons (.agg' ?_) ?_)))
  · intro e h;cases h
  · try dsimp only
    repeat (first|(with_reducible first|refine mv ?_|refine m12 rfl ?_)|fail)
    cases hr
    exact ⟨.inl rfl,rfl⟩

end Go.Rex

namespace Go.Rex
open Go.Proofs
open Go Go.Rex Go.RowKit
set_option maxRecDepth 100000
set_option maxHeartbeats 200000
def y37:=an @ag24 <| an @ag3 <| an @ag88 <| an @by3 <| an @cs24 <| an @cs3 <| an @cs88 <| an @ni24 <| an @ok24 <| an @ok88 <| an @so24 <| an @zc24 <| @zc3
theorem pulse_generator_bits_spec {v1 : Int} {v2 : (List Int)} {v3 : Int} {v4 : Int} {v5 : (List Int)} (hr : pulse_generator_bits v1 v2 v3 v4 = some (v5)) : Spec (lim Try.prog) 76 [.agg [.v (.int .i64 v1),.list 1 (v2.map e_i)],.v (.int .i64 v3),.v (.int .i64 v4)] ⟨[.lsl 0 0 v5.length],[.rows 1 (v5.map e_i)]⟩:=by
  unfold pulse_generator_bits at hr
  have T:=an y37 <| @e_i.eq_1
  apply Spec.fnM Try.func76 rfl
  focus (simp [Try.f76]<;>exact rfl)
  focus
    refine wB T (g:=?_)
    obtain ⟨⟨v6,v7,v8⟩,h1,hr⟩:=bs hr
    try dsimp only at hr
    apply TO.cal (wn T) rfl goFn104 (pulse_generator_states_spec h1) rfl rfl rfl
    repeat exact sd T
    refine wa_ T (g:=?_)
    obtain ⟨v15,h6,hr⟩:=bs hr
    refine TM.weak (s':=⟨.junk :: .junk :: .junk :: .junk :: .junk :: .fptr true [.v (.int .i64 v4)] 0 :: .junk :: .lptr 0 0 0 :: .junk :: .junk :: .junk :: .func 116 [] [.fptr true [.v (.int .i64 v6)] 0,.fptr true [.v (.int .i64 v7),.list 1 (v8.map e_i)] 0] :: .junk :: .junk :: .junk :: .junk :: .junk :: .junk :: .junk :: .junk :: .junk :: .junk :: .junk :: [],[.var [.lsl 1 0 ([] : List Int).length],.rows 1 (([] : List Int).map e_i)]⟩) ?_ ?_
    · exact wr [some 0,none] rfl (rv (.virt .nil) rfl)
    refine TM.range (it:=fun {X}=>pulse_generator_states_c1_3283_it v6 v7 v8) (enc:=fun a0=>[.v (.int .i64 a0)]) h6 (fun v9=>[.var [.lsl 1 0 v9.length],.rows 1 (v9.map e_i)]) (fun v12=>[.var [.lsl 1 0 v12.length],.rows 1 (v12.map e_i)]) (fun _=>.exit 0) rfl rfl goFn116 pulse_generator_states_c1_3283_ispec rfl rfl rfl (fun _=>rfl) (fun _=>.inr ⟨_,rfl⟩) ?_ ?_
    · rintro v13 v9 r hr
      dsimp only [pulse_generator_bits_l1] at hr
      show TX _ _ _ ⟨.junk :: .junk :: .junk :: .junk :: .junk :: .fptr true [.v (.int .i64 v4)] 0 :: .junk :: .lptr 0 0 0 :: .junk :: .junk :: .junk :: .func 116 [] [.fptr true [.v (.int .i64 v6)] 0,.fptr true [.v (.int .i64 v7),.list 1 (v8.map e_i)] 0] :: .v (.int .i64 v13) :: .junk :: .junk :: .junk :: .junk :: .junk :: .junk :: .junk :: .junk :: .junk :: .junk :: [],[.var [.lsl 1 0 v9.length],.rows 1 (v9.map e_i)]⟩ _
      refine wa_ T (g:=?_)
      refine ⟨rfl,?_⟩
      repeat (first|(with_reducible first|refine mv ?_|refine m12 rfl ?_|refine TO.nil ?_)|((with_reducible first|apply TO.ld|apply TO.len|apply TO.bin);(repeat (focus (show _ = _;first|exact k1 rfl|exact k2 rfl|(simp only [zz,y37,e_i,Nat.reduceAdd,Nat.reduceMul,Nat.reduceLeDiff,Nat.reduceEqDiff,tload,rowOf,partT,List.getElem?_map,tlen]<;>exact rfl)|exact rfl)));(with_reducible apply TO.here))|((with_reducible apply TX.region);(focus (simp only [zl]<;>exact rfl));(focus rfl);(try dsimp only))|((with_reducible apply TX.cond_true);(focus rfl);(focus (first|rfl|(simp only [z1,zn];done))))|((with_reducible apply TX.cond_false);(focus rfl);(focus (first|rfl|(simp only [z1,zn];done))))|((with_reducible apply TM.cond_true);(focus rfl);(focus (first|rfl|(simp only [z1,zn];done))))|((with_reducible apply TM.cond_false);(focus rfl);(focus (first|rfl|(simp only [z1,zn];done))))|fail)
      rcases ifs hr with ⟨h4,hr⟩|⟨h4,hr⟩
      · repeat (first|(with_reducible first|refine mv ?_|refine m12 rfl ?_)|((with_reducible apply TX.cond_true);(focus rfl);(focus (first|rfl|(simp only [z1,zn,h4];done))))|((with_reducible apply TX.cond_false);(focus rfl);(focus (first|rfl|(simp only [z1,zn,h4];done))))|((with_reducible apply TM.cond_true);(focus rfl);(focus (first|rfl|(simp only [z1,zn,h4];done))))|((with_reducible apply TM.cond_false);(focus rfl);(focus (first|rfl|(simp only [z1,zn,h4];done))))|fail)
        cases hr
        refine ⟨rfl,?_⟩
        have T:=an h4 T
        exact wk_ T [some 0,some 1] rfl (rv (.rows .nil rfl rfl) rfl)
      · repeat (first|(with_reducible first|refine mv ?_|refine m12 rfl ?_|refine TO.nil ?_)|((with_reducible first|apply TO.ld|apply TO.mv);(repeat (focus (show _ = _;first|exact k1 rfl|exact k2 rfl|(simp only [zz,y37,e_i,Nat.reduceAdd,Nat.reduceMul,Nat.reduceLeDiff,Nat.reduceEqDiff,tload,rowOf,partT,List.getElem?_map,h4]<;>exact rfl)|exact rfl)));(with_reducible apply TO.here))|((with_reducible apply TX.region);(focus (simp only [zl]<;>exact rfl));(focus rfl);(try dsimp only))|((with_reducible apply TX.cond_true);(focus rfl);(focus (first|rfl|(simp only [z1,zn,h4];done))))|((with_reducible apply TX.cond_false);(focus rfl);(focus (first|rfl|(simp only [z1,zn,h4];done))))|((with_reducible apply TM.cond_true);(focus rfl);(focus (first|rfl|(simp only [z1,zn,h4];done))))|((with_reducible apply TM.cond_false);(focus rfl);(focus (first|rfl|(simp only [z1,zn,h4];done))))|fail)
        have T:=an h4 T
        apply TO.pop1 (wn T) (pop_bits rfl rfl (by decide))
        repeat exact sd T
        refine wa_ T (g:=?_)
        apply TO.bm e_i ([(bitI .and .i64 v13 1)] : List Int) (wn T) rfl (by simp only [zz,y37,e_i,Nat.reduceAdd,Nat.reduceMul,Nat.reduceLeDiff,Nat.reduceEqDiff,tslice,tparts,h4];exact rfl) rfl
        repeat exact sd T
        refine wa_ T (g:=?_)
        obtain ⟨v14,h5,hr⟩:=bs hr
        apply TO.ap (f:=e_i) (xs:=v9) (ys:=([(bitI .and .i64 v13 1)] : List Int)) (wn T) rfl rfl (by first|rfl|simp only [List.length_set]) rfl rfl so24 ni24 zc3 rfl (by rw [by3];exact h5) (fun _=>⟨rfl,rfl,rfl⟩)
        repeat exact sd T
        refine wa_ T (g:=?_)
        cases hr
        refine ⟨rfl,?_⟩
        exact wk_ T [some 0,some 1] rfl (rv (.rows .nil rfl rfl) rfl)
    · rcases v15 with v16|v17
      · try dsimp only at hr
        try dsimp only
        refine wA T (g:=?_)
        cases hr
        refine ⟨.inr rfl,_,(ry T),?_⟩
        exact wr [some 1] rfl (.rows .nil rfl rfl)
      · try dsimp only at hr
        try dsimp only
        refine wA T (g:=?_)
        cases hr
        refine ⟨.inr rfl,_,(ry T),?_⟩
        exact wr [some 1] rfl (.rows .nil rfl rfl)
  rfl

end Go.Rex

namespace Go.Rex
open Go.Proofs
open Go Go.Rex Go.RowKit
set_option maxRecDepth 100000
set_option maxHeartbeats 200000
def y38:=an @ag3 <| an @ag88 <| an @cs3 <| an @cs88 <| an @ok3 <| an @ok88 <| an @so24 <| @wi64_0a1
theorem pulse_generator_signs_spec {v1 : Int} {v2 : (List Int)} {v3 : Int} {v4 : (List Int)} (hr : pulse_generator_signs v1 v2 v3 = some (v4)) : Spec (lim Try.prog) 88 [.agg [.v (.int .i64 v1),.list 1 (v2.map e_i)],.v (.int .i64 v3)] ⟨[.lsl 0 0 v4.length],[.rows 1 (v4.map e_i)]⟩:=by
  unfold pulse_generator_signs at hr
  have T:=an y38 <| @e_i.eq_1
  apply Spec.fn Try.func88 rfl
  focus (simp [Try.f88]<;>exact rfl)
  focus
    refine wB T (g:=?_)
    obtain ⟨v5,h1,hr⟩:=bs hr
    apply TD.cal (wn T) rfl goFn41 (pulse_generator_fullPeriod_spec h1) rfl rfl rfl
    repeat exact sd T
    refine wa_ T (g:=?_)
    obtain ⟨v6,h2,hr⟩:=bs hr
    apply TD.cal (wn T) rfl goFn76 (pulse_generator_bits_spec h2) rfl rfl rfl
    repeat exact sd T
    refine wc_ T (g:=?_)
    obtain ⟨v12,h7,hr⟩:=bs hr
    refine TX.loopE (step:=pulse_generator_signs_l1 v6) (x:=(v6,0)) h7 (fun (v7,v8)=>⟨.junk :: .junk :: .junk :: .junk :: .junk :: .lsl 0 0 v7.length :: .junk :: .junk :: .junk :: .junk :: .junk :: .junk :: .junk :: .lsl 0 0 v7.length :: .v (.int .i64 (v6.length : Int)) :: .v (.int .i64 v8) :: .junk :: .junk :: .junk :: .junk :: .junk :: .junk :: .junk :: .junk :: .junk :: .junk :: .junk :: .junk :: [],[.rows 1 (v7.map e_i)]⟩) (fun v10=>(.exit 0,⟨.junk :: .junk :: .junk :: .junk :: .junk :: .lsl 0 0 v10.length :: .junk :: .junk :: .junk :: .junk :: .junk :: .junk :: .junk :: .junk :: .junk :: .junk :: .junk :: .junk :: .junk :: .junk :: .junk :: .junk :: .junk :: .junk :: .junk :: .junk :: .junk :: .junk :: [],[.rows 1 (v10.map e_i)]⟩)) ?_ ?_ ?_ ?_
    · rintro ⟨v7,v8⟩ v0 hr
      dsimp only [pulse_generator_signs_l1] at hr
      try dsimp only
      refine wa_ T (g:=?_)
      rcases ifs hr with ⟨h5,hr⟩|⟨h5,hr⟩
      · have T:=an h5 T
        refine wa_ T (g:=?_)
        obtain ⟨v11,h6,hr⟩:=bs hr
        have h6m:=tidx_map (f:=e_i) h6
        have h6l:=getI_lt h6
        try simp only [List.length_set] at h6l
        have h6a:=getI_at h6
        have T:=an h6m T
        have T:=an h6l T
        have T:=an h6a T
        refine wA T (g:=?_)
        apply TO.sr e_i v7 v11 (IntKind.i64.wrap (1 - (IntKind.i64.wrap (2 * v11)))) h6a (wn T) rfl rfl rfl rfl rfl ok3 (by rw [cs3];rfl) rfl rfl rfl rfl
        repeat exact sd T
        refine wa_ T (g:=?_)
        cases hr
        refine ⟨rfl,?_⟩
        exact wk_ T [some 0] rfl (.rows .nil rfl rfl)
      · have T:=an h5 T
        refine wa_ T (g:=?_)
        cases hr
        refine ⟨rfl,?_⟩
        exact wk_ T [some 0] rfl (.rows .nil rfl rfl)
    · intro e h;cases h
    · try dsimp only
      refine wa_ T (g:=?_)
      cases hr
      refine ⟨.inr rfl,_,(ry T),?_⟩
      exact wr [some 0] rfl (.rows .nil rfl rfl)
    · try dsimp only
      exact wr [some 0] rfl (.rows .nil rfl rfl)
  rfl

end Go.Rex

namespace Go.Rex
open Go.Proofs
open Go Go.Rex Go.RowKit
set_option maxRecDepth 100000
set_option maxHeartbeats 200000
def y39:=an @ag88 <| an @cs24 <| an @cs88 <| an @ok24 <| an @ok88 <| @zc24
theorem pulse_generator_signAt_spec {v1 : Int} {v2 : (List Int)} {v3 : Int} {v4 : (List Int)} (hr : pulse_generator_signAt v1 v2 v3 = some (v4)) : Spec (lim Try.prog) 42 [.agg [.v (.int .i64 v1),.list 1 (v2.map e_i)],.v (.int .i64 v3)] ⟨[.func 89 [] [.fptr true [.list 1 (v4.map e_i)] 0]],[]⟩:=by
  unfold pulse_generator_signAt at hr
  have T:=an y39 <| @e_i.eq_1
  apply Spec.fn Try.func42 rfl
  focus (simp [Try.f42]<;>exact rfl)
  focus
    refine wB T (g:=?_)
    obtain ⟨v5,h1,hr⟩:=bs hr
    apply TO.cal (wn T) rfl goFn88 (pulse_generator_signs_spec h1) rfl rfl rfl
    repeat exact sd T
    refine wa_ T (g:=?_)
    apply TO.frz 0 rfl rfl
    repeat exact sd T
    refine wa_ T (g:=?_)
    apply TO.frz 1 rfl rfl
    repeat exact sd T
    refine wa_ T (g:=?_)
    cases hr
    refine ⟨.inr rfl,_,(ry T),?_⟩
    exact wr [] rfl .nil
  rfl

end Go.Rex

namespace Go.Rex
open Go.Proofs
open Go Go.Rex Go.RowKit
set_option maxRecDepth 100000
set_option maxHeartbeats 200000
theorem pulse_modulo_spec {v1 : Int} {v2 : Int} {v3 : Int} (hr : pulse_modulo v1 v2 = some (v3)) : Spec (lim Try.prog) 90 [.v (.int .i64 v1),.v (.int .i64 v2)] ⟨[.v (.int .i64 v3)],[]⟩:=by
  unfold pulse_modulo at hr
  have T:=trivial
  apply Spec.fn Try.func90 rfl
  focus (simp [Try.f90]<;>exact rfl)
  focus
    refine wa_ T (g:=?_)
    by_cases h1 : v2 = 0
    · rw [if_pos h1] at hr
      cases hr
    · rw [if_neg h1] at hr
      have T:=an h1 T
      refine wa_ T (g:=?_)
      cases hr
      refine ⟨.inr rfl,_,(ry T),?_⟩
      exact wr [] rfl .nil
  rfl

end Go.Rex

namespace Go.Rex
open Go.Proofs
open Go Go.Rex Go.RowKit
set_option maxRecDepth 100000
set_option maxHeartbeats 200000
def y40:=an @ag24 <| an @ag3 <| an @cs3 <| an @ok3 <| @so24
theorem pulse_generator_signAt_c1_9a9e_spec {v1 : Int} {v2 : (List Int)} {v3 : Int} (hr : pulse_generator_signAt_c1_9a9e v1 v2 = some (v3)) : Spec (lim Try.prog) 89 [.v (.int .i64 v1),.fptr true [.list 1 (v2.map e_i)] 0] ⟨[.v (.int .i64 v3)],[]⟩:=by
  unfold pulse_generator_signAt_c1_9a9e at hr
  have T:=an y40 <| @e_i.eq_1
  apply Spec.fn Try.func89 rfl
  focus (simp [Try.f89]<;>exact rfl)
  focus
    refine wC T (g:=?_)
    obtain ⟨v4,h1,hr⟩:=bs hr
    apply TD.cal (wn T) rfl goFn90 (pulse_modulo_spec h1) rfl rfl rfl
    repeat exact sd T
    refine wa_ T (g:=?_)
    obtain ⟨v5,h2,hr⟩:=bs hr
    have T:=an (gx e_i h2) T
    refine wA T (g:=?_)
    cases hr
    refine ⟨.inr rfl,_,(ry T),?_⟩
    exact wr [] rfl .nil
  rfl

end Go.Rex

namespace Go.Rex
open Go.Proofs
open Go Go.Rex Go.RowKit
set_option maxRecDepth 100000
set_option maxHeartbeats 200000
def y41:=@ag91
theorem pulse_Excited_c1_4504_spec {v1 : Int} {v2 : Int} {v3 : (List Int)} {v4 : Int} (hr : pulse_Excited_c1_4504 v1 v2 v3 = some (v4)) : Spec (lim Try.prog) 44 [.v (.int .i64 v1),.v (.int .i64 v2),.fptr true [.func 89 [] [.fptr true [.list 1 (v3.map e_i)] 0]] 0] ⟨[.v (.int .i64 v4)],[]⟩:=by
  unfold pulse_Excited_c1_4504 at hr
  have T:=an y41 <| @e_i.eq_1
  apply Spec.fn Try.func44 rfl
  focus (simp [Try.f44]<;>exact rfl)
  focus
    refine wA T (g:=?_)
    obtain ⟨v5,h1,hr⟩:=bs hr
    apply TO.cal (wn T) rfl goFn89 (pulse_generator_signAt_c1_9a9e_spec h1) rfl rfl rfl
    repeat exact sd T
    refine wa_ T (g:=?_)
    cases hr
    refine ⟨.inr rfl,_,(ry T),?_⟩
    exact wr [] rfl .nil
  rfl

end Go.Rex

namespace Go.Rex
open Go.Proofs
open Go Go.Rex Go.RowKit
set_option maxRecDepth 100000
set_option maxHeartbeats 200000
def y42:=an @ag109 <| an @ag3 <| an @cs109 <| an @fd109_0 <| an @fd109_1 <| an @ok109 <| an @st109 <| @zc109
theorem pulse_number_stretched_spec {v1 : Int} {v2 : Int} {v3 : Int} {v4 : Int} {v5 : Int} (hr : pulse_number_stretched v1 v2 v3 = some (v4,v5)) : Spec (lim Try.prog) 91 [.agg [.v (.int .i64 v1),.v (.int .i64 v2)],.v (.int .i64 v3)] ⟨[.agg [.v (.int .i64 v4),.v (.int .i64 v5)]],[]⟩:=by
  unfold pulse_number_stretched at hr
  have T:=y42
  apply Spec.fn Try.func91 rfl
  focus (simp [Try.f91]<;>exact rfl)
  focus
    refine wB T (g:=?_)
    cases hr
    refine ⟨.inr rfl,_,(ry T),?_⟩
    exact wr [] rfl .nil
  rfl

end Go.Rex

namespace Go.Rex
open Go.Proofs
open Go Go.Rex Go.RowKit
set_option maxRecDepth 100000
set_option maxHeartbeats 1000000
def y43:=an @ag109 <| an @by109 <| an @cs109 <| an @ok109 <| an @so84 <| an @zc109 <| @wi64_0a1
theorem pulse_weighed_2d1e_spec {v1 : (List (Int × Int))} {v2 : (List Int)} {v3 : (List (Int × Int))} (hr : pulse_weighed_2d1e v1 v2 = some (v3)) : Spec (lim Try.prog) 43 [.list 2 (v1.map e_ii),.func 44 [] [.fptr true [.func 89 [] [.fptr true [.list 1 (v2.map e_i)] 0]] 0]] ⟨[.lsl 0 0 v3.length],[.rows 2 (v3.map e_ii)]⟩:=by
  unfold pulse_weighed_2d1e at hr
  have T:=an y43 <| an @e_i.eq_1 <| @e_ii.eq_1
  apply Spec.fn Try.func43 rfl
  focus (simp [Try.f43]<;>exact rfl)
  focus
    refine wc_ T (g:=?_)
    obtain ⟨v4,h1,hr⟩:=bs hr
    apply TO.mk e_ii h1 (wn T) rfl rfl so84 zc109 by109 rfl rfl rfl
    repeat exact sd T
    refine wc_ T (g:=?_)
    obtain ⟨v52,h30,hr⟩:=bs hr
    refine TX.loopE (step:=pulse_weighed_2d1e_l1 v1 v2 v4) (x:=(v4,0)) h30 (fun (v5,v6)=>⟨.list 2 (v1.map e_ii) :: .func 44 [] [.fptr true [.func 89 [] [.fptr true [.list 1 (v2.map e_i)] 0]] 0] :: .junk :: .junk :: .junk :: .lsl 0 0 v5.length :: .junk :: .junk :: .junk :: .junk :: .junk :: .junk :: .junk :: .v (.int .i64 (v4.length : Int)) :: .v (.int .i64 v6) :: .junk :: .junk :: .junk :: .junk :: .junk :: .junk :: .junk :: .junk :: .junk :: .junk :: .junk :: .junk :: .junk :: .junk :: .junk :: .junk :: .junk :: .junk :: .junk :: .junk :: .junk :: .junk :: .junk :: .junk :: .junk :: .junk :: [],[.rows 2 (v5.map e_ii)]⟩) (fun v29=>(.exit 0,⟨.junk :: .junk :: .junk :: .junk :: .junk :: .lsl 0 0 v29.length :: .junk :: .junk :: .junk :: .junk :: .junk :: .junk :: .junk :: .junk :: .junk :: .junk :: .junk :: .junk :: .junk :: .junk :: .junk :: .junk :: .junk :: .junk :: .junk :: .junk :: .junk :: .junk :: .junk :: .junk :: .junk :: .junk :: .junk :: .junk :: .junk :: .junk :: .junk :: .junk :: .junk :: .junk :: .junk :: [],[.rows 2 (v29.map e_ii)]⟩)) ?_ ?_ ?_ ?_
    · rintro ⟨v5,v6⟩ v0 hr
      dsimp only [pulse_weighed_2d1e_l1] at hr
      try dsimp only
      refine wa_ T (g:=?_)
      rcases ifs hr with ⟨h16,hr⟩|⟨h16,hr⟩
      · have T:=an h16 T
        refine wc_ T (g:=?_)
        obtain ⟨v51,h29,hr⟩:=bs hr
        refine TX.loopE (step:=pulse_weighed_2d1e_l2 v1 v2 v6) (x:=(v5,0)) h29 (fun (v30,v31)=>⟨.list 2 (v1.map e_ii) :: .func 44 [] [.fptr true [.func 89 [] [.fptr true [.list 1 (v2.map e_i)] 0]] 0] :: .junk :: .junk :: .junk :: .lsl 0 0 v30.length :: .v (.int .i64 v6) :: .junk :: .junk :: .junk :: .junk :: .junk :: .junk :: .v (.int .i64 (v4.length : Int)) :: .v (.int .i64 v6) :: .junk :: .junk :: .list 2 (v1.map e_ii) :: .v (.int .i64 (v1.length : Int)) :: .v (.int .i64 v31) :: .junk :: .junk :: .junk :: .junk :: .junk :: .junk :: .junk :: .junk :: .junk :: .junk :: .junk :: .junk :: .junk :: .junk :: .junk :: .junk :: .junk :: .junk :: .junk :: .junk :: .junk :: [],[.rows 2 (v30.map e_ii)]⟩) (fun v41=>(.exit 2,⟨.list 2 (v1.map e_ii) :: .func 44 [] [.fptr true [.func 89 [] [.fptr true [.list 1 (v2.map e_i)] 0]] 0] :: .junk :: .junk :: .junk :: .lsl 0 0 v41.length :: .junk :: .junk :: .junk :: .junk :: .junk :: .junk :: .junk :: .v (.int .i64 (v4.length : Int)) :: .v (.int .i64 v6) :: .junk :: .junk :: .junk :: .junk :: .junk :: .junk :: .junk :: .junk :: .junk :: .junk :: .junk :: .junk :: .junk :: .junk :: .junk :: .junk :: .junk :: .junk :: .junk :: .junk :: .junk :: .junk :: .junk :: .junk :: .junk :: .junk :: [],[.rows 2 (v41.map e_ii)]⟩)) ?_ ?_ ?_ ?_
        · rintro ⟨v30,v31⟩ v0 hr
          dsimp only [pulse_weighed_2d1e_l2] at hr
          try dsimp only
          refine wa_ T (g:=?_)
          rcases ifs hr with ⟨h23,hr⟩|⟨h23,hr⟩
          · have T:=an h23 T
            refine wa_ T (g:=?_)
            obtain ⟨⟨v42,v43⟩,h24,hr⟩:=bs hr
            try dsimp only at hr
            have T:=an (gx e_ii h24) T
            refine wA T (g:=?_)
            obtain ⟨⟨v44,v45⟩,h25,hr⟩:=bs hr
            try dsimp only at hr
            have h25m:=tidx_map (f:=e_ii) h25
            have h25l:=getI_lt h25
            try simp only [List.length_set] at h25l
            have h25a:=getI_at h25
            have T:=an h25m T
            have T:=an h25l T
            have T:=an h25a T
            refine wA T (g:=?_)
            obtain ⟨v46,h26,hr⟩:=bs hr
            apply TD.cal (wn T) rfl goFn44 (pulse_Excited_c1_4504_spec h26) rfl rfl rfl
            repeat exact sd T
            refine wa_ T (g:=?_)
            obtain ⟨⟨v47,v48⟩,h27,hr⟩:=bs hr
            try dsimp only at hr
            apply TD.cal (wn T) rfl goFn91 (pulse_number_stretched_spec h27) rfl rfl rfl
            repeat exact sd T
            refine wa_ T (g:=?_)
            obtain ⟨⟨v49,v50⟩,h28,hr⟩:=bs hr
            try dsimp only at hr
            apply TD.cal (wn T) rfl goFn73 (pulse_number_plus_spec h28) rfl rfl rfl
            repeat exact sd T
            refine wa_ T (g:=?_)
            apply TD.sr e_ii v30 (v44,v45) (v49,v50) h25a (wn T) rfl rfl rfl rfl rfl ok109 (by rw [cs109];rfl) rfl rfl rfl rfl rfl
            repeat exact sd T
            refine wa_ T (g:=?_)
            cases hr
            refine ⟨rfl,?_⟩
            exact wk_ T [some 0] rfl (.rows .nil rfl rfl)
          · have T:=an h23 T
            refine wa_ T (g:=?_)
            cases hr
            refine ⟨rfl,?_⟩
            exact wk_ T [some 0] rfl (.rows .nil rfl rfl)
        · intro e h;cases h
        · try dsimp only
          refine wa_ T (g:=?_)
          cases hr
          refine ⟨rfl,?_⟩
          exact wk_ T [some 0] rfl (.rows .nil rfl rfl)
        · try dsimp only
          exact wk_ T [some 0] rfl (.rows .nil rfl rfl)
      · have T:=an h16 T
        refine wa_ T (g:=?_)
        cases hr
        refine ⟨rfl,?_⟩
        exact wk_ T [some 0] rfl (.rows .nil rfl rfl)
    · intro e h;cases h
    · try dsimp only
      refine wa_ T (g:=?_)
      cases hr
      refine ⟨.inr rfl,_,(ry T),?_⟩
      exact wr [some 0] rfl (.rows .nil rfl rfl)
    · try dsimp only
      exact wr [some 0] rfl (.rows .nil rfl rfl)
  rfl

end Go.Rex

namespace Go.Rex
open Go.Proofs
open Go Go.Rex Go.RowKit
set_option maxRecDepth 100000
set_option maxHeartbeats 1000000
def y44:=an @ag26 <| an @ag88 <| an @cs26 <| an @cs80 <| an @cs88 <| an @cs91 <| an @ok26 <| an @ok88 <| an @ok91 <| an @so128 <| an @st88 <| an @zc80 <| an @zc88 <| @zc91
theorem pulse_Excited_spec {v1 : (List (Nat × Nat))} {v2 : Int} {v3 : (List Int)} {v4 : Int} {v5 : (List (Nat × Nat))} {v6 : Int} (hr : pulse_Excited v1 v2 v3 v4 = some (v5,v6)) : Spec (lim Try.prog) 11 [.list 1 (v1.map e_c),.agg [.v (.int .i64 v2),.list 1 (v3.map e_i)],.v (.int .i64 v4)] ⟨[.tuple [.lsl 0 0 v5.length,.v (.int .i64 v6)]],[.rows 1 (v5.map e_c)]⟩:=by
  unfold pulse_Excited at hr
  have T:=an y44 <| an @e_c.eq_1 <| @e_i.eq_1
  apply Spec.fn Try.func11 rfl
  focus (simp [Try.f11]<;>exact rfl)
  focus
    refine wB T (g:=?_)
    obtain ⟨v7,h1,hr⟩:=bs hr
    apply TD.cal (wn T) rfl goFn34 (pulse_listed_spec h1) rfl rfl rfl
    repeat exact sd T
    refine wA T (g:=?_)
    obtain ⟨⟨v8,v9,v10⟩,h2,hr⟩:=bs hr
    try dsimp only at hr
    apply TD.cal (wn T) rfl goFn40 (pulse_generator_startsAt_spec h2) rfl rfl rfl
    repeat exact sd T
    refine we_ T (g:=?_)
    obtain ⟨v11,h3,hr⟩:=bs hr
    apply TD.cal (wn T) rfl goFn33 (pulse_firstError_cdf6_spec h3) rfl rfl rfl
    repeat exact sd T
    refine wa_ T (g:=?_)
    rcases ifs hr with ⟨h4,hr⟩|⟨h4,hr⟩
    · have T:=an h4 T
      refine wa_ T (g:=?_)
      cases hr
      refine ⟨.inr rfl,_,(ry T),?_⟩
      exact wk_ T [none] rfl (.virt .nil)
    · have T:=an h4 T
      refine wa_ T (g:=?_)
      obtain ⟨v12,h5,hr⟩:=bs hr
      apply TD.cal (wn T) rfl goFn38 (pulse_numbersOf_spec h5) rfl rfl rfl
      repeat exact sd T
      refine wA T (g:=?_)
      obtain ⟨v13,h6,hr⟩:=bs hr
      apply TD.cal (wn T) rfl goFn41 (pulse_generator_fullPeriod_spec h6) rfl rfl rfl
      repeat exact sd T
      refine wa_ T (g:=?_)
      obtain ⟨v14,h7,hr⟩:=bs hr
      apply TD.lok (wn T) rfl goFn37 (pulse_foldedTo_spec h7) (vw T) rfl rfl (by simp [clTB,cl,e_ff,e_c,e_ii,e_i])
      repeat exact sd T
      refine wA T (g:=?_)
      obtain ⟨v15,h8,hr⟩:=bs hr
      apply TD.cal (wn T) rfl goFn42 (pulse_generator_signAt_spec h8) rfl rfl rfl
      repeat exact sd T
      refine wa_ T (g:=?_)
      obtain ⟨⟨v16,v17⟩,h9,hr⟩:=bs hr
      try dsimp only at hr
      apply TO.lok (wn T) rfl goFn36 (pulse_recorded_spec h9) (vw T) rfl rfl (by simp [clTB,cl,e_ff,e_c,e_ii,e_i])
      repeat exact sd T
      refine wa_ T (g:=?_)
      rcases ifs hr with ⟨h10,hr⟩|⟨h10,hr⟩
      · have T:=an h10 T
        refine wa_ T (g:=?_)
        cases hr
        refine ⟨.inr rfl,_,(ry T),?_⟩
        exact wk_ T [none] rfl (.virt .nil)
      · have T:=an h10 T
        refine wa_ T (g:=?_)
        apply TO.frz 3 rfl rfl
        repeat exact sd T
        refine wa_ T (g:=?_)
        obtain ⟨v18,h11,hr⟩:=bs hr
        apply TO.lok (wn T) rfl goFn43 (pulse_weighed_2d1e_spec h11) (vw T) rfl rfl (by simp [clTB,cl,e_ff,e_c,e_ii,e_i])
        repeat exact sd T
        refine wa_ T (g:=?_)
        obtain ⟨⟨v19,v20⟩,h12,hr⟩:=bs hr
        try dsimp only at hr
        apply TO.lok (wn T) rfl goFn36 (pulse_recorded_spec h12) (vw T) rfl rfl (by simp [clTB,cl,e_ff,e_c,e_ii,e_i])
        repeat exact sd T
        refine wa_ T (g:=?_)
        cases hr
        refine ⟨.inr rfl,_,(ry T),?_⟩
        exact wk_ T [some 6] rfl (.rows .nil rfl rfl)
  rfl

end Go.Rex

namespace Go.Rex
open Go.Proofs
open Go Go.Rex Go.RowKit
set_option maxRecDepth 100000
set_option maxHeartbeats 1000000
def y45:=an @un132 <| @un3
theorem base_IsWhole_spec {v1 : Nat} {v2 : Bool} (hr : base_IsWhole v1 = some (v2)) : Spec (lim Try.prog) 92 [.v (.float .f64 v1)] ⟨[.v (.bool v2)],[]⟩:=by
  unfold base_IsWhole at hr
  have T:=y45
  apply Spec.fn Try.func92 rfl
  focus (simp [Try.f92]<;>exact rfl)
  focus
    refine wa_ T (g:=?_)
    apply TO.pop1 (wn T) (pop_fcmp rfl rfl (by decide))
    repeat exact sd T
    refine wa_ T (g:=?_)
    rcases ifs hr with ⟨h1,hr⟩|⟨h1,hr⟩
    · have T:=an h1 T
      refine wa_ T (g:=?_)
      cases hr
      refine ⟨.inr rfl,_,(ry T),?_⟩
      exact wk_ T [] rfl .nil
    · have T:=an h1 T
      refine wa_ T (g:=?_)
      obtain ⟨v3,h2,hr⟩:=bs hr
      apply TO.pop1 (wn T) (pop_farith rfl rfl (by decide) (h2))
      repeat exact sd T
      refine wa_ T (g:=?_)
      apply TO.pop1 (wn T) (pop_fcmp rfl rfl (by decide))
      repeat exact sd T
      refine wa_ T (g:=?_)
      rcases ifs hr with ⟨h3,hr⟩|⟨h3,hr⟩
      · have T:=an h3 T
        refine wa_ T (g:=?_)
        cases hr
        refine ⟨.inr rfl,_,(ry T),?_⟩
        exact wk_ T [] rfl .nil
      · have T:=an h3 T
        refine wa_ T (g:=?_)
        apply TO.pop1 (wn T) (pop_fcmp rfl rfl (by decide))
        repeat exact sd T
        refine wa_ T (g:=?_)
        rcases ifs hr with ⟨h4,hr⟩|⟨h4,hr⟩
        · have T:=an h4 T
          refine wa_ T (g:=?_)
          apply TO.pop1 (wn T) (pop_fcmp rfl rfl (by decide))
          repeat exact sd T
          refine wa_ T (g:=?_)
          apply TO.pop1 (wn T) (pop_not rfl)
          repeat exact sd T
          refine wa_ T (g:=?_)
          rcases ifs hr with ⟨h5,hr⟩|⟨h5,hr⟩
          · have T:=an h5 T
            refine wa_ T (g:=?_)
            obtain ⟨v4,h6,hr⟩:=bs hr
            apply TO.pop1 (wn T) (cvt_float_int un132 un3 rfl h6)
            repeat exact sd T
            refine wa_ T (g:=?_)
            apply TO.pop1 (wn T) (cvt_int_float un3 un132 rfl)
            repeat exact sd T
            refine wa_ T (g:=?_)
            apply TO.pop1 (wn T) (pop_fcmp rfl rfl (by decide))
            repeat exact sd T
            refine wa_ T (g:=?_)
            cases hr
            refine ⟨.inr rfl,_,(ry T),?_⟩
            exact wk_ T [] rfl .nil
          · have T:=an h5 T
            refine wa_ T (g:=?_)
            cases hr
            refine ⟨.inr rfl,_,(ry T),?_⟩
            exact wk_ T [] rfl .nil
        · have T:=an h4 T
          refine wa_ T (g:=?_)
          apply TO.pop1 (wn T) (pop_not rfl)
          repeat exact sd T
          refine wa_ T (g:=?_)
          cases hr
          refine ⟨.inr rfl,_,(ry T),?_⟩
          exact wk_ T [] rfl .nil
  rfl

end Go.Rex

namespace Go.Rex
open Go.Proofs
open Go Go.Rex Go.RowKit
set_option maxRecDepth 100000
set_option maxHeartbeats 1000000
def y46:=an @ag49 <| an @cs49 <| an @ok49 <| an @so31 <| an @un132 <| an @un51 <| @wi64_0a1
theorem ref04_ListErr_spec {v1 : (List (Nat × Nat))} {v2 : Int} (hr : ref04_ListErr v1 = some (v2)) : Spec (lim Try.prog) 46 [.list 1 (v1.map e_c)] ⟨[.v (.int .i64 v2)],[]⟩:=by
  unfold ref04_ListErr at hr
  have T:=an y46 <| @e_c.eq_1
  apply Spec.fn Try.func46 rfl
  focus (simp [Try.f46]<;>exact rfl)
  focus
    refine wc_ T (g:=?_)
    rcases ifs hr with ⟨h1,hr⟩|⟨h1,hr⟩
    · have T:=an h1 T
      refine wa_ T (g:=?_)
      cases hr
      refine ⟨.inr rfl,_,(ry T),?_⟩
      exact wk_ T [] rfl .nil
    · have T:=an h1 T
      refine wc_ T (g:=?_)
      rcases ifs hr with ⟨h2,hr⟩|⟨h2,hr⟩
      · have T:=an h2 T
        refine wa_ T (g:=?_)
        cases hr
        refine ⟨.inr rfl,_,(ry T),?_⟩
        exact wk_ T [] rfl .nil
      · have T:=an h2 T
        refine wa_ T (g:=?_)
        obtain ⟨v17,h27,hr⟩:=bs hr
        refine TX.loopE (step:=ref04_ListErr_l1 v1) (x:=0) h27 (fun v3=>⟨.list 1 (v1.map e_c) :: .junk :: .junk :: .v (.int .i64 v3) :: .junk :: .junk :: .junk :: .junk :: .junk :: .junk :: .junk :: .junk :: .junk :: .junk :: .junk :: .junk :: .junk :: .junk :: .junk :: .junk :: .junk :: .junk :: .junk :: .junk :: .junk :: .junk :: .junk :: .junk :: .junk :: .junk :: .junk :: .junk :: .junk :: .junk :: .junk :: .junk :: .junk :: .junk :: .junk :: .junk :: .junk :: .junk :: .junk :: .junk :: .junk :: .junk :: .junk :: .junk :: .junk :: .junk :: .junk :: .junk :: [],[]⟩) (fun e=>match e with|(.inl v10)=>(.ret,⟨.junk :: .junk :: .v (.int .i64 v10) :: .junk :: .junk :: .junk :: .junk :: .junk :: .junk :: .junk :: .junk :: .junk :: .junk :: .junk :: .junk :: .junk :: .junk :: .junk :: .junk :: .junk :: .junk :: .junk :: .junk :: .junk :: .junk :: .junk :: .junk :: .junk :: .junk :: .junk :: .junk :: .junk :: .junk :: .junk :: .junk :: .junk :: .junk :: .junk :: .junk :: .junk :: .junk :: .junk :: .junk :: .junk :: .junk :: .junk :: .junk :: .junk :: .junk :: .junk :: .junk :: .junk :: [],[]⟩)|(.inr _)=>(.exit 0,⟨.junk :: .junk :: .junk :: .junk :: .junk :: .junk :: .junk :: .junk :: .junk :: .junk :: .junk :: .junk :: .junk :: .junk :: .junk :: .junk :: .junk :: .junk :: .junk :: .junk :: .junk :: .junk :: .junk :: .junk :: .junk :: .junk :: .junk :: .junk :: .junk :: .junk :: .junk :: .junk :: .junk :: .junk :: .junk :: .junk :: .junk :: .junk :: .junk :: .junk :: .junk :: .junk :: .junk :: .junk :: .junk :: .junk :: .junk :: .junk :: .junk :: .junk :: .junk :: .junk :: [],[]⟩)) ?_ ?_ ?_ ?_
        · rintro v3 v0 hr
          dsimp only [ref04_ListErr_l1] at hr
          try dsimp only
          refine wc_ T (g:=?_)
          rcases ifs hr with ⟨h15,hr⟩|⟨h15,hr⟩
          · have T:=an h15 T
            refine wa_ T (g:=?_)
            obtain ⟨⟨v11,v12⟩,h16,hr⟩:=bs hr
            try dsimp only at hr
            have T:=an (gx e_c h16) T
            refine wA T (g:=?_)
            apply TD.pop1 (wn T) (pop_real rfl)
            repeat exact sd T
            refine wa_ T (g:=?_)
            obtain ⟨v13,h17,hr⟩:=bs hr
            apply TD.pop1 (wn T) (cvt_float_float un51 un132 rfl h17)
            repeat exact sd T
            refine wA T (g:=?_)
            apply TD.pop1 (wn T) (pop_imag rfl)
            repeat exact sd T
            refine wa_ T (g:=?_)
            obtain ⟨v14,h18,hr⟩:=bs hr
            apply TD.pop1 (wn T) (cvt_float_float un51 un132 rfl h18)
            repeat exact sd T
            refine wa_ T (g:=?_)
            obtain ⟨v15,h19,hr⟩:=bs hr
            apply TO.cal (wn T) rfl goFn92 (base_IsWhole_spec h19) rfl rfl rfl
            repeat exact sd T
            refine wa_ T (g:=?_)
            apply TO.pop1 (wn T) (pop_not rfl)
            repeat exact sd T
            refine wa_ T (g:=?_)
            rcases ifs hr with ⟨h20,hr⟩|⟨h20,hr⟩
            · have T:=an h20 T
              refine wa_ T (g:=?_)
              obtain ⟨v16,h21,hr⟩:=bs hr
              apply TO.cal (wn T) rfl goFn92 (base_IsWhole_spec h21) rfl rfl rfl
              repeat exact sd T
              refine wa_ T (g:=?_)
              apply TO.pop1 (wn T) (pop_not rfl)
              repeat exact sd T
              refine wa_ T (g:=?_)
              rcases ifs hr with ⟨h22,hr⟩|⟨h22,hr⟩
              · have T:=an h22 T
                refine wa_ T (g:=?_)
                apply TO.pop1 (wn T) (pop_fcmp rfl rfl (by decide))
                repeat exact sd T
                refine wa_ T (g:=?_)
                rcases ifs hr with ⟨h23,hr⟩|⟨h23,hr⟩
                · have T:=an h23 T
                  refine wa_ T (g:=?_)
                  cases hr
                  refine ⟨rfl,?_⟩
                  exact wk_ T [] rfl .nil
                · have T:=an h23 T
                  refine wa_ T (g:=?_)
                  apply TO.pop1 (wn T) (pop_fcmp rfl rfl (by decide))
                  repeat exact sd T
                  refine wa_ T (g:=?_)
                  rcases ifs hr with ⟨h24,hr⟩|⟨h24,hr⟩
                  · have T:=an h24 T
                    refine wa_ T (g:=?_)
                    cases hr
                    refine ⟨rfl,?_⟩
                    exact wk_ T [] rfl .nil
                  · have T:=an h24 T
                    refine wa_ T (g:=?_)
                    apply TO.pop1 (wn T) (pop_fcmp rfl rfl (by decide))
                    repeat exact sd T
                    refine wa_ T (g:=?_)
                    rcases ifs hr with ⟨h25,hr⟩|⟨h25,hr⟩
                    · have T:=an h25 T
                      refine wa_ T (g:=?_)
                      cases hr
                      refine ⟨rfl,?_⟩
                      exact wk_ T [] rfl .nil
                    · have T:=an h25 T
                      refine wa_ T (g:=?_)
                      apply TO.pop1 (wn T) (pop_fcmp rfl rfl (by decide))
                      repeat exact sd T
                      refine wa_ T (g:=?_)
                      rcases ifs hr with ⟨h26,hr⟩|⟨h26,hr⟩
                      · have T:=an h26 T
                        refine wa_ T (g:=?_)
                        cases hr
                        refine ⟨rfl,?_⟩
                        exact wk_ T [] rfl .nil
                      · have T:=an h26 T
                        refine wa_ T (g:=?_)
                        cases hr
                        refine ⟨rfl,?_⟩
                        exact wk_ T [] rfl .nil
              · have T:=an h22 T
                refine wa_ T (g:=?_)
                cases hr
                refine ⟨rfl,?_⟩
                exact wk_ T [] rfl .nil
            · have T:=an h20 T
              refine wa_ T (g:=?_)
              cases hr
              refine ⟨rfl,?_⟩
              exact wk_ T [] rfl .nil
          · have T:=an h15 T
            refine wa_ T (g:=?_)
            cases hr
            refine ⟨rfl,?_⟩
            exact wk_ T [] rfl .nil
        · intro e h;rcases e with _|e<;>cases h
        · try dsimp only
          rcases v17 with v18|_
          · try dsimp only at hr
            try dsimp only
            refine wa_ T (g:=?_)
            cases hr
            refine ⟨.inr rfl,_,(ry T),?_⟩
            exact wk_ T [] rfl .nil
          · try dsimp only at hr
            try dsimp only
            refine wa_ T (g:=?_)
            cases hr
            refine ⟨.inr rfl,_,(ry T),?_⟩
            exact wk_ T [] rfl .nil
        · try dsimp only
          exact wk_ T [] rfl .nil
  rfl

end Go.Rex

namespace Go.Rex
open Go.Proofs
open Go Go.Rex Go.RowKit
set_option maxRecDepth 100000
set_option maxHeartbeats 200000
theorem base_Within_spec {v1 : Int} {v2 : Int} {v3 : Int} {v4 : Bool} (hr : base_Within v1 v2 v3 = some (v4)) : Spec (lim Try.prog) 20 [.v (.int .i64 v1),.v (.int .i64 v2),.v (.int .i64 v3)] ⟨[.v (.bool v4)],[]⟩:=by
  unfold base_Within at hr
  have T:=trivial
  apply Spec.fn Try.func20 rfl
  focus (simp [Try.f20]<;>exact rfl)
  focus
    refine wa_ T (g:=?_)
    rcases ifs hr with ⟨h1,hr⟩|⟨h1,hr⟩
    · have T:=an h1 T
      refine wa_ T (g:=?_)
      cases hr
      refine ⟨.inr rfl,_,(ry T),?_⟩
      exact wk_ T [] rfl .nil
    · have T:=an h1 T
      refine wa_ T (g:=?_)
      cases hr
      refine ⟨.inr rfl,_,(ry T),?_⟩
      exact wk_ T [] rfl .nil
  rfl

end Go.Rex

namespace Go.Rex
open Go.Proofs
open Go Go.Rex Go.RowKit
set_option maxRecDepth 100000
set_option maxHeartbeats 200000
def y47:=an @ag49 <| an @ar47 <| an @by47 <| an @cs3 <| an @cs47 <| an @cs49 <| an @ni46 <| an @ok3 <| an @ok49 <| an @so31 <| an @so46 <| an @st47 <| an @un3 <| an @un51 <| an @zc47 <| @wi64_0a1
theorem ref04_Pairs_spec {v1 : (List (Nat × Nat))} {v2 : (List (Int × Int))} (hr : ref04_Pairs v1 = some (v2)) : Spec (lim Try.prog) 49 [.list 1 (v1.map e_c)] ⟨[.lsl 0 0 v2.length],[.rows 2 (v2.map e_ii)]⟩:=by
  unfold ref04_Pairs at hr
  have T:=an y47 <| an @e_c.eq_1 <| @e_ii.eq_1
  apply Spec.fn Try.func49 rfl
  focus (simp [Try.f49]<;>exact rfl)
  focus
    refine wa_ T (g:=?_)
    apply TX.vt (α:=(Int × Int)) e_ii 3 2 rfl
    repeat exact sd T
    with_reducible apply TX.here
    refine wa_ T (g:=?_)
    obtain ⟨v16,h11,hr⟩:=bs hr
    refine TX.loopE (step:=ref04_Pairs_l1 v1) (x:=(([] : List (Int × Int)),0)) h11 (fun (v3,v4)=>⟨.list 1 (v1.map e_c) :: .junk :: .junk :: .lsl 0 0 v3.length :: .v (.int .i64 v4) :: .junk :: .junk :: .junk :: .junk :: .junk :: .junk :: .junk :: .junk :: .junk :: .junk :: .junk :: .junk :: .junk :: .junk :: .junk :: .junk :: .junk :: .junk :: .junk :: .junk :: .junk :: .junk :: .junk :: [],[.rows 2 (v3.map e_ii)]⟩) (fun v10=>(.exit 0,⟨.junk :: .junk :: .junk :: .lsl 0 0 v10.length :: .junk :: .junk :: .junk :: .junk :: .junk :: .junk :: .junk :: .junk :: .junk :: .junk :: .junk :: .junk :: .junk :: .junk :: .junk :: .junk :: .junk :: .junk :: .junk :: .junk :: .junk :: .junk :: .junk :: .junk :: [],[.rows 2 (v10.map e_ii)]⟩)) ?_ ?_ ?_ ?_
    · rintro ⟨v3,v4⟩ v0 hr
      dsimp only [ref04_Pairs_l1] at hr
      try dsimp only
      refine wc_ T (g:=?_)
      rcases ifs hr with ⟨h6,hr⟩|⟨h6,hr⟩
      · have T:=an h6 T
        refine wa_ T (g:=?_)
        obtain ⟨⟨v11,v12⟩,h7,hr⟩:=bs hr
        try dsimp only at hr
        have h7m:=tidx_map (f:=e_c) h7
        have h7l:=getI_lt h7
        try simp only [List.length_set] at h7l
        have h7a:=getI_at h7
        have T:=an h7m T
        have T:=an h7l T
        have T:=an h7a T
        refine wA T (g:=?_)
        apply TD.pop1 (wn T) (pop_real rfl)
        repeat exact sd T
        refine wa_ T (g:=?_)
        obtain ⟨v13,h8,hr⟩:=bs hr
        apply TD.pop1 (wn T) (cvt_float_int un51 un3 rfl h8)
        repeat exact sd T
        refine wA T (g:=?_)
        apply TD.pop1 (wn T) (pop_imag rfl)
        repeat exact sd T
        refine wa_ T (g:=?_)
        obtain ⟨v14,h9,hr⟩:=bs hr
        apply TD.pop1 (wn T) (cvt_float_int un51 un3 rfl h9)
        repeat exact sd T
        refine wa_ T (g:=?_)
        apply TD.bm e_ii ([(v13,v14)] : List (Int × Int)) (wn T) rfl (by simp only [zz,y47,e_c,e_ii,Nat.reduceAdd,Nat.reduceMul,Nat.reduceLeDiff,Nat.reduceEqDiff,tslice,tparts,h6,h7m,h7l,h7a];exact rfl) rfl
        repeat exact sd T
        refine wa_ T (g:=?_)
        obtain ⟨v15,h10,hr⟩:=bs hr
        apply TD.ap (f:=e_ii) (xs:=v3) (ys:=([(v13,v14)] : List (Int × Int))) (wn T) rfl rfl (by first|rfl|simp only [List.length_set]) rfl rfl so46 ni46 zc47 rfl (by rw [by47];exact h10) (fun _=>⟨rfl,rfl,rfl⟩) rfl
        repeat exact sd T
        refine wa_ T (g:=?_)
        cases hr
        refine ⟨rfl,?_⟩
        exact wk_ T [some 0] rfl (.rows .nil rfl rfl)
      · have T:=an h6 T
        refine wa_ T (g:=?_)
        cases hr
        refine ⟨rfl,?_⟩
        exact wk_ T [some 0] rfl (.rows .nil rfl rfl)
    · intro e h;cases h
    · try dsimp only
      refine wa_ T (g:=?_)
      cases hr
      refine ⟨.inr rfl,_,(ry T),?_⟩
      exact wr [some 0] rfl (.rows .nil rfl rfl)
    · try dsimp only
      exact wr [some 0] rfl (.rows .nil rfl rfl)
  rfl

end Go.Rex
