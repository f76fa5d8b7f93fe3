/- Proofs that the program's functions do what these plain functions say. -/
import Derived.Test.YtbodidihhbejmaaGB
import Derived.Test.YtbodidihhbejmaaS
set_option linter.unusedSimpArgs false
set_option linter.unusedVariables false
set_option linter.defProp false
namespace Go.Rex
open Go.Proofs
open Go Go.Rex Go.RowKit
set_option maxRecDepth 100000
set_option maxHeartbeats 200000
theorem base_Within_spec {v1 : Int} {v2 : Int} {v3 : Int} {v4 : Bool} (hr : base_Within v1 v2 v3 = some (v4)) : Spec (lim Try.prog) 20 [.v (.int .i64 v1),.v (.int .i64 v2),.v (.int .i64 v3)] ⟨[.v (.bool v4)],[]⟩:=by
  unfold base_Within at hr
  have T:=trivial
  apply Spec.fn Try.func20 rfl
  focus (simp [Try.f20]<;>exact rfl)
  focus
    refine wa_ T (g:=?_)
    rcases ifs hr with ⟨h1,hr⟩|⟨h1,hr⟩
    · have T:=an h1 T
      refine wa_ T (g:=?_)
      cases hr
      refine ⟨.inr rfl,_,(ry T),?_⟩
      exact wk_ T [] rfl .nil
    · have T:=an h1 T
      refine wa_ T (g:=?_)
      cases hr
      refine ⟨.inr rfl,_,(ry T),?_⟩
      exact wk_ T [] rfl .nil
  rfl

end Go.Rex

namespace Go.Rex
open Go.Proofs
open Go Go.Rex Go.RowKit
set_option maxRecDepth 100000
set_option maxHeartbeats 200000
def y1:=an @un3 <| @un51
theorem base_Sample_spec {v1 : Int} {v2 : Int} {v3 : Nat} {v4 : Nat} (hr : base_Sample v1 v2 = some (v3,v4)) : Spec (lim Try.prog) 21 [.v (.int .i64 v1),.v (.int .i64 v2)] ⟨[.v (.complex .f32 v3 v4)],[]⟩:=by
  unfold base_Sample at hr
  have T:=y1
  apply Spec.fn Try.func21 rfl
  focus (simp [Try.f21]<;>exact rfl)
  focus
    refine wa_ T (g:=?_)
    apply TO.pop1 (wn T) (pop_min rfl rfl)
    repeat exact sd T
    refine wa_ T (g:=?_)
    apply TO.pop1 (wn T) (pop_max rfl rfl)
    repeat exact sd T
    refine wa_ T (g:=?_)
    apply TO.pop1 (wn T) (cvt_int_float un3 un51 rfl)
    repeat exact sd T
    refine wa_ T (g:=?_)
    apply TO.pop1 (wn T) (pop_min rfl rfl)
    repeat exact sd T
    refine wa_ T (g:=?_)
    apply TO.pop1 (wn T) (pop_max rfl rfl)
    repeat exact sd T
    refine wa_ T (g:=?_)
    apply TO.pop1 (wn T) (cvt_int_float un3 un51 rfl)
    repeat exact sd T
    refine wa_ T (g:=?_)
    apply TO.pop1 (wn T) (pop_complex rfl rfl)
    repeat exact sd T
    refine wa_ T (g:=?_)
    cases hr
    refine ⟨.inr rfl,_,(ry T),?_⟩
    exact wr [] rfl .nil
  rfl

end Go.Rex

namespace Go.Rex
open Go.Proofs
open Go Go.Rex Go.RowKit
set_option maxRecDepth 100000
set_option maxHeartbeats 200000
theorem pulse_refuse_spec {v1 : Bool} {v2 : Int} {v3 : Bool} {v4 : Int} (hr : pulse_refuse v1 v2 = some (v3,v4)) : Spec (lim Try.prog) 55 [.v (.bool v1),.v (.int .i64 v2)] ⟨[.func 98 [] [.fptr true [.v (.bool v3)] 0,.fptr true [.v (.int .i64 v4)] 0]],[]⟩:=by
  unfold pulse_refuse at hr
  have T:=trivial
  apply Spec.fn Try.func55 rfl
  focus (simp [Try.f55]<;>exact rfl)
  focus
    refine wb_ T (g:=?_)
    cases hr
    refine ⟨.inr rfl,_,(ry T),?_⟩
    exact wr [] rfl .nil
  rfl

end Go.Rex

namespace Go.Rex
open Go.Proofs
open Go Go.Rex Go.RowKit
set_option maxRecDepth 100000
set_option maxHeartbeats 200000
theorem pulse_within_spec {v1 : Int} {v2 : Int} {v3 : Int} {v4 : Bool} {v5 : Int} (hr : pulse_within v1 v2 v3 = some (v4,v5)) : Spec (lim Try.prog) 35 [.v (.int .i64 v1),.v (.int .i64 v2),.v (.int .i64 v3)] ⟨[.func 98 [] [.fptr true [.v (.bool v4)] 0,.fptr true [.v (.int .i64 v5)] 0]],[]⟩:=by
  unfold pulse_within at hr
  have T:=trivial
  apply Spec.fn Try.func35 rfl
  focus (simp [Try.f35]<;>exact rfl)
  focus
    refine wa_ T (g:=?_)
    rcases ifs hr with ⟨h1,hr⟩|⟨h1,hr⟩
    · have T:=an h1 T
      refine wa_ T (g:=?_)
      obtain ⟨⟨v6,v7⟩,h2,hr⟩:=bs hr
      try dsimp only at hr
      apply TO.cal (wn T) rfl goFn55 (pulse_refuse_spec h2) rfl rfl rfl
      repeat exact sd T
      refine wa_ T (g:=?_)
      cases hr
      refine ⟨.inr rfl,_,(ry T),?_⟩
      exact wk_ T [] rfl .nil
    · have T:=an h1 T
      refine wa_ T (g:=?_)
      obtain ⟨⟨v8,v9⟩,h3,hr⟩:=bs hr
      try dsimp only at hr
      apply TO.cal (wn T) rfl goFn55 (pulse_refuse_spec h3) rfl rfl rfl
      repeat exact sd T
      refine wa_ T (g:=?_)
      cases hr
      refine ⟨.inr rfl,_,(ry T),?_⟩
      exact wk_ T [] rfl .nil
  rfl

end Go.Rex

namespace Go.Rex
open Go.Proofs
open Go Go.Rex Go.RowKit
set_option maxRecDepth 100000
set_option maxHeartbeats 200000
def y2:=an @ag32 <| @ag4
theorem pulse_refuse_c1_11f9_spec {v1 : Bool} {v2 : Int} {v3 : Int} (hr : pulse_refuse_c1_11f9 v1 v2 = some (v3)) : Spec (lim Try.prog) 98 [.fptr true [.v (.bool v1)] 0,.fptr true [.v (.int .i64 v2)] 0] ⟨[.v (.int .i64 v3)],[]⟩:=by
  unfold pulse_refuse_c1_11f9 at hr
  have T:=y2
  apply Spec.fn Try.func98 rfl
  focus (simp [Try.f98]<;>exact rfl)
  focus
    refine wA T (g:=?_)
    rcases ifs hr with ⟨h1,hr⟩|⟨h1,hr⟩
    · have T:=an h1 T
      refine wA T (g:=?_)
      cases hr
      refine ⟨.inr rfl,_,(ry T),?_⟩
      exact wk_ T [] rfl .nil
    · have T:=an h1 T
      refine wa_ T (g:=?_)
      cases hr
      refine ⟨.inr rfl,_,(ry T),?_⟩
      exact wk_ T [] rfl .nil
  rfl

end Go.Rex

namespace Go.Rex
open Go.Proofs
open Go Go.Rex Go.RowKit
set_option maxRecDepth 100000
set_option maxHeartbeats 200000
def y3:=an @ag80 <| an @cs80 <| an @ok80 <| an @so128 <| an @wi64_0a1 <| @wi64_1a1
theorem pulse_firstError_9abe_spec {v1 : Bool} {v2 : Int} {v3 : Bool} {v4 : Int} {v5 : Int} (hr : pulse_firstError_9abe v1 v2 v3 v4 = some (v5)) : Spec (lim Try.prog) 33 [.list 1 [[.func 98 [] [.fptr true [.v (.bool v1)] 0,.fptr true [.v (.int .i64 v2)] 0]],[.func 98 [] [.fptr true [.v (.bool v3)] 0,.fptr true [.v (.int .i64 v4)] 0]]]] ⟨[.v (.int .i64 v5)],[]⟩:=by
  unfold pulse_firstError_9abe at hr
  have T:=y3
  apply Spec.fn Try.func33 rfl
  focus (simp [Try.f33]<;>exact rfl)
  focus
    refine wc_ T (g:=?_)
    refine TX.unroll ?_
    repeat (first|(with_reducible first|refine mv ?_|refine TO.nil ?_)|((with_reducible first|apply TO.bin|apply TO.ia|apply TO.ld|apply TO.asg|apply TO.mv);(repeat (focus (show _ = _;first|exact k1 rfl|exact k2 rfl|(simp only [zz,y3,Nat.reduceAdd,Nat.reduceMul,Nat.reduceLeDiff,Nat.reduceEqDiff,tindexAddr,z5,Int.reduceToNat,Int.reduceLE,Int.reduceLT,Int.cast_ofNat_Int,tload,rowOf,partT,List.getElem?_map]<;>exact rfl)|exact rfl)));(with_reducible apply TO.here))|((with_reducible apply TX.region);(focus (simp only [zl]<;>exact rfl));(focus rfl);(try dsimp only))|((with_reducible apply TX.cond_true);(focus rfl);(focus (first|rfl|(simp only [z1,zn];done))))|((with_reducible apply TX.cond_false);(focus rfl);(focus (first|rfl|(simp only [z1,zn];done))))|fail)
    obtain ⟨v6,h1,hr⟩:=bs hr
    apply TO.cal (wn T) rfl goFn98 (pulse_refuse_c1_11f9_spec h1) rfl rfl rfl
    repeat exact sd T
    refine wa_ T (g:=?_)
    rcases ifs hr with ⟨h2,hr⟩|⟨h2,hr⟩
    · have T:=an h2 T
      refine wa_ T (g:=?_)
      cases hr
      refine ⟨.inr rfl,_,(ry T),?_⟩
      exact wk_ T [] rfl .nil
    · have T:=an h2 T
      refine wa_ T (g:=?_)
      refine TX.unroll ?_
      repeat (first|(with_reducible first|refine mv ?_|refine TO.nil ?_)|((with_reducible first|apply TO.bin|apply TO.ia|apply TO.ld|apply TO.asg|apply TO.mv);(repeat (focus (show _ = _;first|exact k1 rfl|exact k2 rfl|(simp only [zz,y3,Nat.reduceAdd,Nat.reduceMul,Nat.reduceLeDiff,Nat.reduceEqDiff,tindexAddr,z5,Int.reduceToNat,Int.reduceLE,Int.reduceLT,Int.cast_ofNat_Int,tload,rowOf,partT,List.getElem?_map,h2]<;>exact rfl)|exact rfl)));(with_reducible apply TO.here))|((with_reducible apply TX.region);(focus (simp only [zl]<;>exact rfl));(focus rfl);(try dsimp only))|((with_reducible apply TX.cond_true);(focus rfl);(focus (first|rfl|(simp only [z1,zn,h2];done))))|((with_reducible apply TX.cond_false);(focus rfl);(focus (first|rfl|(simp only [z1,zn,h2];done))))|fail)
      obtain ⟨v7,h3,hr⟩:=bs hr
      apply TO.cal (wn T) rfl goFn98 (pulse_refuse_c1_11f9_spec h3) rfl rfl rfl
      repeat exact sd T
      refine wa_ T (g:=?_)
      rcases ifs hr with ⟨h4,hr⟩|⟨h4,hr⟩
      · have T:=an h4 T
        refine wa_ T (g:=?_)
        cases hr
        refine ⟨.inr rfl,_,(ry T),?_⟩
        exact wk_ T [] rfl .nil
      · have T:=an h4 T
        refine wa_ T (g:=?_)
        refine TX.unroll ?_
        refine wa_ T (g:=?_)
        cases hr
        refine ⟨.inr rfl,_,(ry T),?_⟩
        exact wk_ T [] rfl .nil
  rfl

end Go.Rex

namespace Go.Rex
open Go.Proofs
open Go Go.Rex Go.RowKit
set_option maxRecDepth 100000
set_option maxHeartbeats 200000
def y4:=an @ag49 <| an @ar115 <| an @by49 <| an @cs115 <| an @cs49 <| an @cs80 <| an @ni31 <| an @ok115 <| an @ok49 <| an @so115 <| an @so128 <| an @so31 <| an @st115 <| an @zc115 <| an @zc49 <| an @zc80 <| @wi64_0a1
theorem pulse_Chirp_spec {v1 : Int} {v2 : Int} {v3 : (List (Nat × Nat))} {v4 : Int} (hr : pulse_Chirp v1 v2 = some (v3,v4)) : Spec (lim Try.prog) 22 [.v (.int .i64 v1),.v (.int .i64 v2)] ⟨[.tuple [.lsl 0 0 v3.length,.v (.int .i64 v4)]],[.rows 1 (v3.map e_c)]⟩:=by
  unfold pulse_Chirp at hr
  have T:=an y4 <| @e_c.eq_1
  apply Spec.fn Try.func22 rfl
  focus (simp [Try.f22]<;>exact rfl)
  focus
    refine wa_ T (g:=?_)
    obtain ⟨⟨v5,v6⟩,h1,hr⟩:=bs hr
    try dsimp only at hr
    apply TO.cal (wn T) rfl goFn35 (pulse_within_spec h1) rfl rfl rfl
    repeat exact sd T
    refine wa_ T (g:=?_)
    obtain ⟨⟨v7,v8⟩,h2,hr⟩:=bs hr
    try dsimp only at hr
    apply TO.cal (wn T) rfl goFn35 (pulse_within_spec h2) rfl rfl rfl
    repeat exact sd T
    refine we_ T (g:=?_)
    obtain ⟨v9,h3,hr⟩:=bs hr
    apply TO.cal (wn T) rfl goFn33 (pulse_firstError_9abe_spec h3) rfl rfl rfl
    repeat exact sd T
    refine wa_ T (g:=?_)
    rcases ifs hr with ⟨h4,hr⟩|⟨h4,hr⟩
    · have T:=an h4 T
      refine wa_ T (g:=?_)
      cases hr
      refine ⟨.inr rfl,_,(ry T),?_⟩
      exact wk_ T [none] rfl (.virt .nil)
    · have T:=an h4 T
      refine wa_ T (g:=?_)
      apply TX.vt (α:=(Nat × Nat)) e_c 8 1 rfl
      repeat exact sd T
      with_reducible apply TX.here
      refine wa_ T (g:=?_)
      obtain ⟨v20,h13,hr⟩:=bs hr
      refine TX.loopE (step:=pulse_Chirp_l1 v1 v2) (x:=(([] : List (Nat × Nat)),0,0)) h13 (fun (v10,v11,v12)=>⟨.junk :: .v (.int .i64 v2) :: .junk :: .junk :: .junk :: .junk :: .junk :: .lptr 0 0 0 :: .lsl 1 0 v10.length :: .v (.int .i64 v11) :: .junk :: .junk :: .junk :: .junk :: .junk :: .junk :: .junk :: .junk :: .junk :: .junk :: .junk :: .v (.int .i64 v1) :: .v (.int .i64 v12) :: .junk :: .junk :: .junk :: .junk :: .junk :: .junk :: .junk :: .junk :: .junk :: .junk :: .junk :: .junk :: .junk :: .junk :: .junk :: .junk :: [],[.var [.v (.complex .f32 1065353216 0),.v (.complex .f32 0 1065353216),.v (.complex .f32 3212836864 0),.v (.complex .f32 0 3212836864)],.rows 1 (v10.map e_c)]⟩) (fun v16=>(.exit 0,⟨.junk :: .junk :: .junk :: .junk :: .junk :: .junk :: .junk :: .junk :: .lsl 0 0 v16.length :: .junk :: .junk :: .junk :: .junk :: .junk :: .junk :: .junk :: .junk :: .junk :: .junk :: .junk :: .junk :: .junk :: .junk :: .junk :: .junk :: .junk :: .junk :: .junk :: .junk :: .junk :: .junk :: .junk :: .junk :: .junk :: .junk :: .junk :: .junk :: .junk :: .junk :: [],[.rows 1 (v16.map e_c)]⟩)) ?_ ?_ ?_ ?_
      · rintro ⟨v10,v11,v12⟩ v0 hr
        dsimp only [pulse_Chirp_l1] at hr
        try dsimp only
        refine wa_ T (g:=?_)
        rcases ifs hr with ⟨h9,hr⟩|⟨h9,hr⟩
        · have T:=an h9 T
          refine wa_ T (g:=?_)
          by_cases h10 : v2 = 0
          · rw [if_pos h10] at hr
            cases hr
          · rw [if_neg h10] at hr
            have T:=an h10 T
            refine wa_ T (g:=?_)
            obtain ⟨⟨v17,v18⟩,h11,hr⟩:=bs hr
            try dsimp only at hr
            have h11l:=getI_lt h11
            refine wa_ T (g:=?_)
            have T:=an h11l T
            apply TO.pop1 (wn T) (iaA (xs:=([(1065353216,0),(0,1065353216),(3212836864,0),(0,3212836864)] : List (Nat × Nat))) h11 rfl rfl so115 ar115 rfl ok49 cs49)
            repeat exact sd T
            refine wa_ T (g:=?_)
            apply TO.ld (wn T) rfl (ldx_ok (f:=e_c) (xs:=([(1065353216,0),(0,1065353216),(3212836864,0),(0,3212836864)] : List (Nat × Nat))) h11 rfl rfl (fun _=>rfl) cs49 (by first|exact .inl ⟨ag49,ok49,rfl⟩|exact .inr ⟨ag49,rfl,rfl⟩))
            repeat exact sd T
            refine wa_ T (g:=?_)
            apply TO.bm e_c ([(v17,v18)] : List (Nat × Nat)) (wn T) rfl (by simp only [zz,y4,e_c,Nat.reduceAdd,Nat.reduceMul,Nat.reduceLeDiff,Nat.reduceEqDiff,tslice,tparts,h4,h9,h10,h11l];exact rfl) rfl
            repeat exact sd T
            refine wa_ T (g:=?_)
            obtain ⟨v19,h12,hr⟩:=bs hr
            apply TO.ap (f:=e_c) (xs:=v10) (ys:=([(v17,v18)] : List (Nat × Nat))) (wn T) rfl rfl (by first|rfl|simp only [List.length_set]) rfl rfl so31 ni31 zc49 rfl (by rw [by49];exact h12) (fun _=>⟨rfl,rfl,rfl⟩)
            repeat exact sd T
            refine wa_ T (g:=?_)
            cases hr
            refine ⟨rfl,?_⟩
            exact wk_ T [some 0,some 1] rfl (rv (.rows .nil rfl rfl) rfl)
        · have T:=an h9 T
          refine wa_ T (g:=?_)
          cases hr
          refine ⟨rfl,?_⟩
          exact wk_ T [some 1] rfl (.rows .nil rfl rfl)
      · intro e h;cases h
      · try dsimp only
        refine wa_ T (g:=?_)
        cases hr
        refine ⟨.inr rfl,_,(ry T),?_⟩
        exact wk_ T [some 0] rfl (.rows .nil rfl rfl)
      · try dsimp only
        exact wk_ T [some 0,some 1] rfl (rv (.rows .nil rfl rfl) rfl)
  rfl

end Go.Rex

namespace Go.Rex
open Go.Proofs
open Go Go.Rex Go.RowKit
set_option maxRecDepth 100000
set_option maxHeartbeats 200000
theorem pulse_listed_spec {v1 : (List (Nat × Nat))} {v2 : (List (Nat × Nat))} (hr : pulse_listed v1 = some (v2)) : Spec (lim Try.prog) 34 [.list 1 (v1.map e_c)] ⟨[.func 82 [] [.fptr true [.list 1 (v2.map e_c)] 0]],[]⟩:=by
  unfold pulse_listed at hr
  have T:=@e_c.eq_1
  apply Spec.fn Try.func34 rfl
  focus (simp [Try.f34]<;>exact rfl)
  focus
    refine wb_ T (g:=?_)
    cases hr
    refine ⟨.inr rfl,_,(ry T),?_⟩
    exact wr [] rfl .nil
  rfl

end Go.Rex

namespace Go.Rex
open Go.Proofs
open Go Go.Rex Go.RowKit
set_option maxRecDepth 100000
set_option maxHeartbeats 200000
theorem pulse_each_e848_spec {v1 : Int} {v2 : (List (Nat × Nat))} {v3 : Int} {v4 : (List (Nat × Nat))} (hr : pulse_each_e848 v1 v2 = some (v3,v4)) : Spec (lim Try.prog) 65 [.v (.int .i64 v1),.func 83 [] [.fptr true [.list 1 (v2.map e_c)] 0]] ⟨[.func 100 [] [.fptr true [.v (.int .i64 v3)] 0,.fptr true [.func 83 [] [.fptr true [.list 1 (v4.map e_c)] 0]] 0]],[]⟩:=by
  unfold pulse_each_e848 at hr
  have T:=@e_c.eq_1
  apply Spec.fn Try.func65 rfl
  focus (simp [Try.f65]<;>exact rfl)
  focus
    refine wb_ T (g:=?_)
    cases hr
    refine ⟨.inr rfl,_,(ry T),?_⟩
    exact wr [] rfl .nil
  rfl

end Go.Rex

namespace Go.Rex
open Go.Proofs
open Go Go.Rex Go.RowKit
set_option maxRecDepth 100000
set_option maxHeartbeats 200000
def y5:=an @ar_129 <| @ex129
theorem math_Trunc_spec {v1 : Nat} {v2 : Nat} (hr : math_Trunc v1 = some (v2)) : Spec (lim Try.prog) 120 [.v (.float .f64 v1)] ⟨[.v (.float .f64 v2)],[]⟩:=by
  unfold math_Trunc at hr
  have T:=y5
  apply Spec.fn Try.func120 rfl
  focus (simp [Try.f120]<;>exact rfl)
  focus
    refine wa_ T (g:=?_)
    obtain ⟨v3,h1,hr⟩:=bs hr
    apply TO.tr (wn T) rfl ex129 ar_129 (by simp only [z1,z3,zl]<;>rfl) h1
    repeat exact sd T
    refine wa_ T (g:=?_)
    cases hr
    refine ⟨.inr rfl,_,(ry T),?_⟩
    exact wr [] rfl .nil
  rfl

end Go.Rex

namespace Go.Rex
open Go.Proofs
open Go Go.Rex Go.RowKit
set_option maxRecDepth 100000
set_option maxHeartbeats 200000
def y6:=an @ex133 <| @ex97
theorem math_Abs_spec {v1 : Nat} {v2 : Nat} (hr : math_Abs v1 = some (v2)) : Spec (lim Try.prog) 131 [.v (.float .f64 v1)] ⟨[.v (.float .f64 v2)],[]⟩:=by
  unfold math_Abs at hr
  have T:=y6
  apply Spec.fn Try.func131 rfl
  focus (simp [Try.f131]<;>exact rfl)
  focus
    refine wa_ T (g:=?_)
    obtain ⟨v3,h1,hr⟩:=bs hr
    apply TO.fb (wn T) rfl ex97 (by simp only [z1,z3,zl]<;>rfl) h1 rfl
    repeat exact sd T
    refine wa_ T (g:=?_)
    apply TO.pop1 (wn T) (pop_bits rfl rfl (by decide))
    repeat exact sd T
    refine wa_ T (g:=?_)
    apply TO.ex (wn T) rfl ex133 (by simp only [z1,z3,zl];exact rfl) rfl rfl (rfl) rfl rfl rfl
    repeat exact sd T
    refine wa_ T (g:=?_)
    cases hr
    refine ⟨.inr rfl,_,(ry T),?_⟩
    exact wr [] rfl .nil
  rfl

end Go.Rex

namespace Go.Rex
open Go.Proofs
open Go Go.Rex Go.RowKit
set_option maxRecDepth 100000
set_option maxHeartbeats 200000
theorem math_IsInf_spec {v1 : Nat} {v2 : Int} {v3 : Bool} (hr : math_IsInf v1 v2 = some (v3)) : Spec (lim Try.prog) 121 [.v (.float .f64 v1),.v (.int .i64 v2)] ⟨[.v (.bool v3)],[]⟩:=by
  unfold math_IsInf at hr
  have T:=trivial
  apply Spec.fn Try.func121 rfl
  focus (simp [Try.f121]<;>exact rfl)
  focus
    refine wa_ T (g:=?_)
    rcases ifs hr with ⟨h1,hr⟩|⟨h1,hr⟩
    · have T:=an h1 T
      refine wa_ T (g:=?_)
      obtain ⟨v4,h2,hr⟩:=bs hr
      apply TO.cal (wn T) rfl goFn131 (math_Abs_spec h2) rfl rfl rfl
      repeat exact sd T
      refine wa_ T (g:=?_)
      apply TO.pop1 (wn T) (pop_fcmp rfl rfl (by decide))
      repeat exact sd T
      refine wa_ T (g:=?_)
      cases hr
      refine ⟨.inr rfl,_,(ry T),?_⟩
      exact wk_ T [] rfl .nil
    · have T:=an h1 T
      refine wa_ T (g:=?_)
      rcases ifs hr with ⟨h3,hr⟩|⟨h3,hr⟩
      · have T:=an h3 T
        refine wa_ T (g:=?_)
        apply TO.pop1 (wn T) (pop_fneg rfl)
        repeat exact sd T
        refine wa_ T (g:=?_)
        apply TO.pop1 (wn T) (pop_fcmp rfl rfl (by decide))
        repeat exact sd T
        refine wa_ T (g:=?_)
        cases hr
        refine ⟨.inr rfl,_,(ry T),?_⟩
        exact wk_ T [] rfl .nil
      · have T:=an h3 T
        refine wa_ T (g:=?_)
        apply TO.pop1 (wn T) (pop_fcmp rfl rfl (by decide))
        repeat exact sd T
        refine wa_ T (g:=?_)
        cases hr
        refine ⟨.inr rfl,_,(ry T),?_⟩
        exact wk_ T [] rfl .nil
  rfl

end Go.Rex

namespace Go.Rex
open Go.Proofs
open Go Go.Rex Go.RowKit
set_option maxRecDepth 100000
set_option maxHeartbeats 200000
def y7:=an @un132 <| @un51
theorem pulse_isWhole_spec {v1 : Nat} {v2 : Bool} (hr : pulse_isWhole v1 = some (v2)) : Spec (lim Try.prog) 112 [.v (.float .f32 v1)] ⟨[.v (.bool v2)],[]⟩:=by
  unfold pulse_isWhole at hr
  have T:=y7
  apply Spec.fn Try.func112 rfl
  focus (simp [Try.f112]<;>exact rfl)
  focus
    refine wa_ T (g:=?_)
    obtain ⟨v3,h1,hr⟩:=bs hr
    apply TO.pop1 (wn T) (cvt_float_float un51 un132 rfl h1)
    repeat exact sd T
    refine wa_ T (g:=?_)
    obtain ⟨v4,h2,hr⟩:=bs hr
    apply TO.cal (wn T) rfl goFn120 (math_Trunc_spec h2) rfl rfl rfl
    repeat exact sd T
    refine wa_ T (g:=?_)
    apply TO.pop1 (wn T) (pop_fcmp rfl rfl (by decide))
    repeat exact sd T
    refine wa_ T (g:=?_)
    rcases ifs hr with ⟨h3,hr⟩|⟨h3,hr⟩
    · have T:=an h3 T
      refine wa_ T (g:=?_)
      obtain ⟨v5,h4,hr⟩:=bs hr
      apply TO.cal (wn T) rfl goFn121 (math_IsInf_spec h4) rfl rfl rfl
      repeat exact sd T
      refine wa_ T (g:=?_)
      apply TO.pop1 (wn T) (pop_not rfl)
      repeat exact sd T
      refine wa_ T (g:=?_)
      cases hr
      refine ⟨.inr rfl,_,(ry T),?_⟩
      exact wk_ T [] rfl .nil
    · have T:=an h3 T
      refine wa_ T (g:=?_)
      cases hr
      refine ⟨.inr rfl,_,(ry T),?_⟩
      exact wk_ T [] rfl .nil
  rfl

end Go.Rex

namespace Go.Rex
open Go.Proofs
open Go Go.Rex Go.RowKit
set_option maxRecDepth 100000
set_option maxHeartbeats 200000
theorem pulse_isSmall_float32_spec {v1 : Nat} {v2 : Nat} {v3 : Bool} (hr : pulse_isSmall_float32 v1 v2 = some (v3)) : Spec (lim Try.prog) 113 [.v (.float .f32 v1),.v (.float .f32 v2)] ⟨[.v (.bool v3)],[]⟩:=by
  unfold pulse_isSmall_float32 at hr
  have T:=trivial
  apply Spec.fn Try.func113 rfl
  focus (simp [Try.f113]<;>exact rfl)
  focus
    refine wa_ T (g:=?_)
    apply TO.pop1 (wn T) (pop_fneg rfl)
    repeat exact sd T
    refine wa_ T (g:=?_)
    apply TO.pop1 (wn T) (pop_fcmp rfl rfl (by decide))
    repeat exact sd T
    refine wa_ T (g:=?_)
    rcases ifs hr with ⟨h1,hr⟩|⟨h1,hr⟩
    · have T:=an h1 T
      refine wa_ T (g:=?_)
      apply TO.pop1 (wn T) (pop_fcmp rfl rfl (by decide))
      repeat exact sd T
      refine wa_ T (g:=?_)
      cases hr
      refine ⟨.inr rfl,_,(ry T),?_⟩
      exact wk_ T [] rfl .nil
    · have T:=an h1 T
      refine wa_ T (g:=?_)
      cases hr
      refine ⟨.inr rfl,_,(ry T),?_⟩
      exact wk_ T [] rfl .nil
  rfl

end Go.Rex

namespace Go.Rex
open Go.Proofs
open Go Go.Rex Go.RowKit
set_option maxRecDepth 100000
set_option maxHeartbeats 1000000
def y8:=an @cs80 <| an @so128 <| @zc80
theorem pulse_errorOf_spec {v1 : Nat} {v2 : Nat} {v3 : Int} (hr : pulse_errorOf v1 v2 = some (v3)) : Spec (lim Try.prog) 84 [.v (.complex .f32 v1 v2)] ⟨[.v (.int .i64 v3)],[]⟩:=by
  unfold pulse_errorOf at hr
  have T:=y8
  apply Spec.fn Try.func84 rfl
  focus (simp [Try.f84]<;>exact rfl)
  focus
    refine wa_ T (g:=?_)
    apply TO.pop1 (wn T) (pop_real rfl)
    repeat exact sd T
    refine wa_ T (g:=?_)
    apply TO.pop1 (wn T) (pop_imag rfl)
    repeat exact sd T
    refine wa_ T (g:=?_)
    obtain ⟨v4,h1,hr⟩:=bs hr
    apply TO.cal (wn T) rfl goFn112 (pulse_isWhole_spec h1) rfl rfl rfl
    repeat exact sd T
    refine wa_ T (g:=?_)
    apply TO.pop1 (wn T) (pop_not rfl)
    repeat exact sd T
    refine wa_ T (g:=?_)
    rcases ifs hr with ⟨h2,hr⟩|⟨h2,hr⟩
    · have T:=an h2 T
      refine wa_ T (g:=?_)
      obtain ⟨v5,h3,hr⟩:=bs hr
      apply TO.cal (wn T) rfl goFn112 (pulse_isWhole_spec h3) rfl rfl rfl
      repeat exact sd T
      refine wa_ T (g:=?_)
      apply TO.pop1 (wn T) (pop_not rfl)
      repeat exact sd T
      refine wa_ T (g:=?_)
      obtain ⟨⟨v6,v7⟩,h4,hr⟩:=bs hr
      try dsimp only at hr
      apply TO.cal (wn T) rfl goFn55 (pulse_refuse_spec h4) rfl rfl rfl
      repeat exact sd T
      refine wa_ T (g:=?_)
      obtain ⟨v8,h5,hr⟩:=bs hr
      apply TO.cal (wn T) rfl goFn113 (pulse_isSmall_float32_spec h5) rfl rfl rfl
      repeat exact sd T
      refine wa_ T (g:=?_)
      apply TO.pop1 (wn T) (pop_not rfl)
      repeat exact sd T
      refine wa_ T (g:=?_)
      rcases ifs hr with ⟨h6,hr⟩|⟨h6,hr⟩
      · have T:=an h6 T
        refine wa_ T (g:=?_)
        obtain ⟨v9,h7,hr⟩:=bs hr
        apply TO.cal (wn T) rfl goFn113 (pulse_isSmall_float32_spec h7) rfl rfl rfl
        repeat exact sd T
        refine wa_ T (g:=?_)
        apply TO.pop1 (wn T) (pop_not rfl)
        repeat exact sd T
        refine wa_ T (g:=?_)
        obtain ⟨⟨v10,v11⟩,h8,hr⟩:=bs hr
        try dsimp only at hr
        apply TO.cal (wn T) rfl goFn55 (pulse_refuse_spec h8) rfl rfl rfl
        repeat exact sd T
        refine we_ T (g:=?_)
        obtain ⟨v12,h9,hr⟩:=bs hr
        apply TO.cal (wn T) rfl goFn33 (pulse_firstError_9abe_spec h9) rfl rfl rfl
        repeat exact sd T
        refine wa_ T (g:=?_)
        cases hr
        refine ⟨.inr rfl,_,(ry T),?_⟩
        exact wk_ T [] rfl .nil
      · have T:=an h6 T
        refine wa_ T (g:=?_)
        obtain ⟨⟨v13,v14⟩,h10,hr⟩:=bs hr
        try dsimp only at hr
        apply TO.cal (wn T) rfl goFn55 (pulse_refuse_spec h10) rfl rfl rfl
        repeat exact sd T
        refine we_ T (g:=?_)
        obtain ⟨v15,h11,hr⟩:=bs hr
        apply TO.cal (wn T) rfl goFn33 (pulse_firstError_9abe_spec h11) rfl rfl rfl
        repeat exact sd T
        refine wa_ T (g:=?_)
        cases hr
        refine ⟨.inr rfl,_,(ry T),?_⟩
        exact wk_ T [] rfl .nil
    · have T:=an h2 T
      refine wa_ T (g:=?_)
      obtain ⟨⟨v16,v17⟩,h12,hr⟩:=bs hr
      try dsimp only at hr
      apply TO.cal (wn T) rfl goFn55 (pulse_refuse_spec h12) rfl rfl rfl
      repeat exact sd T
      refine wa_ T (g:=?_)
      obtain ⟨v18,h13,hr⟩:=bs hr
      apply TO.cal (wn T) rfl goFn113 (pulse_isSmall_float32_spec h13) rfl rfl rfl
      repeat exact sd T
      refine wa_ T (g:=?_)
      apply TO.pop1 (wn T) (pop_not rfl)
      repeat exact sd T
      refine wa_ T (g:=?_)
      rcases ifs hr with ⟨h14,hr⟩|⟨h14,hr⟩
      · have T:=an h14 T
        refine wa_ T (g:=?_)
        obtain ⟨v19,h15,hr⟩:=bs hr
        apply TO.cal (wn T) rfl goFn113 (pulse_isSmall_float32_spec h15) rfl rfl rfl
        repeat exact sd T
        refine wa_ T (g:=?_)
        apply TO.pop1 (wn T) (pop_not rfl)
        repeat exact sd T
        refine wa_ T (g:=?_)
        obtain ⟨⟨v20,v21⟩,h16,hr⟩:=bs hr
        try dsimp only at hr
        apply TO.cal (wn T) rfl goFn55 (pulse_refuse_spec h16) rfl rfl rfl
        repeat exact sd T
        refine we_ T (g:=?_)
        obtain ⟨v22,h17,hr⟩:=bs hr
        apply TO.cal (wn T) rfl goFn33 (pulse_firstError_9abe_spec h17) rfl rfl rfl
        repeat exact sd T
        refine wa_ T (g:=?_)
        cases hr
        refine ⟨.inr rfl,_,(ry T),?_⟩
        exact wk_ T [] rfl .nil
      · have T:=an h14 T
        refine wa_ T (g:=?_)
        obtain ⟨⟨v23,v24⟩,h18,hr⟩:=bs hr
        try dsimp only at hr
        apply TO.cal (wn T) rfl goFn55 (pulse_refuse_spec h18) rfl rfl rfl
        repeat exact sd T
        refine we_ T (g:=?_)
        obtain ⟨v25,h19,hr⟩:=bs hr
        apply TO.cal (wn T) rfl goFn33 (pulse_firstError_9abe_spec h19) rfl rfl rfl
        repeat exact sd T
        refine wa_ T (g:=?_)
        cases hr
        refine ⟨.inr rfl,_,(ry T),?_⟩
        exact wk_ T [] rfl .nil
  rfl

end Go.Rex

namespace Go.Rex
open Go.Proofs
open Go Go.Rex Go.RowKit
set_option maxRecDepth 100000
set_option maxHeartbeats 200000
def y9:=an @ag31 <| an @ag49 <| an @cs49 <| an @ok49 <| @so31
theorem pulse_listed_c1_c1_06f5_spec {v1 : Int} {v2 : (List (Nat × Nat))} {v3 : Int} (hr : pulse_listed_c1_c1_06f5 v1 v2 = some (v3)) : Spec (lim Try.prog) 83 [.v (.int .i64 v1),.fptr true [.list 1 (v2.map e_c)] 0] ⟨[.v (.int .i64 v3)],[]⟩:=by
  unfold pulse_listed_c1_c1_06f5 at hr
  have T:=an y9 <| @e_c.eq_1
  apply Spec.fn Try.func83 rfl
  focus (simp [Try.f83]<;>exact rfl)
  focus
    refine wA T (g:=?_)
    obtain ⟨⟨v4,v5⟩,h1,hr⟩:=bs hr
    try dsimp only at hr
    have T:=an (gx e_c h1) T
    refine wA T (g:=?_)
    obtain ⟨v6,h2,hr⟩:=bs hr
    apply TO.cal (wn T) rfl goFn84 (pulse_errorOf_spec h2) rfl rfl rfl
    repeat exact sd T
    refine wa_ T (g:=?_)
    cases hr
    refine ⟨.inr rfl,_,(ry T),?_⟩
    exact wr [] rfl .nil
  rfl

end Go.Rex

namespace Go.Rex
open Go.Proofs
open Go Go.Rex Go.RowKit
set_option maxRecDepth 100000
set_option maxHeartbeats 200000
def y10:=an @ag118 <| an @ag3 <| @wi64_0a1
theorem pulse_each_c1_b362_spec {v1 : Int} {v2 : (List (Nat × Nat))} {v3 : Int} (hr : pulse_each_c1_b362 v1 v2 = some (v3)) : Spec (lim Try.prog) 100 [.fptr true [.v (.int .i64 v1)] 0,.fptr true [.func 83 [] [.fptr true [.list 1 (v2.map e_c)] 0]] 0] ⟨[.v (.int .i64 v3)],[]⟩:=by
  unfold pulse_each_c1_b362 at hr
  have T:=an y10 <| @e_c.eq_1
  apply Spec.fn Try.func100 rfl
  focus (simp [Try.f100]<;>exact rfl)
  focus
    refine wA T (g:=?_)
    obtain ⟨v8,h7,hr⟩:=bs hr
    refine TX.loopE (step:=pulse_each_c1_b362_l1 v1 v2) (x:=0) h7 (fun v4=>⟨.junk :: .fptr true [.func 83 [] [.fptr true [.list 1 (v2.map e_c)] 0]] 0 :: .junk :: .junk :: .junk :: .v (.int .i64 v1) :: .v (.int .i64 v4) :: .junk :: .junk :: .junk :: .junk :: .junk :: .junk :: .junk :: .junk :: .junk :: [],[]⟩) (fun e=>match e with|(.inl v6)=>(.ret,⟨.junk :: .junk :: .v (.int .i64 v6) :: .junk :: .junk :: .junk :: .junk :: .junk :: .junk :: .junk :: .junk :: .junk :: .junk :: .junk :: .junk :: .junk :: [],[]⟩)|(.inr _)=>(.exit 0,⟨.junk :: .junk :: .junk :: .junk :: .junk :: .junk :: .junk :: .junk :: .junk :: .junk :: .junk :: .junk :: .junk :: .junk :: .junk :: .junk :: [],[]⟩)) ?_ ?_ ?_ ?_
    · rintro v4 v0 hr
      dsimp only [pulse_each_c1_b362_l1] at hr
      try dsimp only
      refine wa_ T (g:=?_)
      rcases ifs hr with ⟨h4,hr⟩|⟨h4,hr⟩
      · have T:=an h4 T
        refine wA T (g:=?_)
        obtain ⟨v7,h5,hr⟩:=bs hr
        apply TO.cal (wn T) rfl goFn83 (pulse_listed_c1_c1_06f5_spec h5) rfl rfl rfl
        repeat exact sd T
        refine wa_ T (g:=?_)
        rcases ifs hr with ⟨h6,hr⟩|⟨h6,hr⟩
        · have T:=an h6 T
          refine wa_ T (g:=?_)
          cases hr
          refine ⟨rfl,?_⟩
          exact wk_ T [] rfl .nil
        · have T:=an h6 T
          refine wa_ T (g:=?_)
          cases hr
          refine ⟨rfl,?_⟩
          exact wk_ T [] rfl .nil
      · have T:=an h4 T
        refine wa_ T (g:=?_)
        cases hr
        refine ⟨rfl,?_⟩
        exact wk_ T [] rfl .nil
    · intro e h;rcases e with _|e<;>cases h
    · try dsimp only
      rcases v8 with v9|_
      · try dsimp only at hr
        try dsimp only
        refine wa_ T (g:=?_)
        cases hr
        refine ⟨.inr rfl,_,(ry T),?_⟩
        exact wr [] rfl .nil
      · try dsimp only at hr
        try dsimp only
        refine wa_ T (g:=?_)
        cases hr
        refine ⟨.inr rfl,_,(ry T),?_⟩
        exact wr [] rfl .nil
    · try dsimp only
      exact wr [] rfl .nil
  rfl

end Go.Rex

namespace Go.Rex
open Go.Proofs
open Go Go.Rex Go.RowKit
set_option maxRecDepth 100000
set_option maxHeartbeats 200000
def y11:=an @ag80 <| an @cs80 <| an @ok80 <| an @so128 <| an @wi64_0a1 <| an @wi64_1a1 <| @wi64_2a1
theorem pulse_firstError_046d_spec {v1 : Bool} {v2 : Int} {v3 : Bool} {v4 : Int} {v5 : Int} {v6 : (List (Nat × Nat))} {v7 : Int} (hr : pulse_firstError_046d v1 v2 v3 v4 v5 v6 = some (v7)) : Spec (lim Try.prog) 33 [.list 1 [[.func 98 [] [.fptr true [.v (.bool v1)] 0,.fptr true [.v (.int .i64 v2)] 0]],[.func 98 [] [.fptr true [.v (.bool v3)] 0,.fptr true [.v (.int .i64 v4)] 0]],[.func 100 [] [.fptr true [.v (.int .i64 v5)] 0,.fptr true [.func 83 [] [.fptr true [.list 1 (v6.map e_c)] 0]] 0]]]] ⟨[.v (.int .i64 v7)],[]⟩:=by
  unfold pulse_firstError_046d at hr
  have T:=an y11 <| @e_c.eq_1
  apply Spec.fn Try.func33 rfl
  focus (simp [Try.f33]<;>exact rfl)
  focus
    refine wc_ T (g:=?_)
    refine TX.unroll ?_
    repeat (first|(with_reducible first|refine mv ?_|refine TO.nil ?_)|((with_reducible first|apply TO.bin|apply TO.ia|apply TO.ld|apply TO.asg|apply TO.mv);(repeat (focus (show _ = _;first|exact k1 rfl|exact k2 rfl|(simp only [zz,y11,e_c,Nat.reduceAdd,Nat.reduceMul,Nat.reduceLeDiff,Nat.reduceEqDiff,tindexAddr,z5,Int.reduceToNat,Int.reduceLE,Int.reduceLT,Int.cast_ofNat_Int,tload,rowOf,partT,List.getElem?_map]<;>exact rfl)|exact rfl)));(with_reducible apply TO.here))|((with_reducible apply TX.region);(focus (simp only [zl]<;>exact rfl));(focus rfl);(try dsimp only))|((with_reducible apply TX.cond_true);(focus rfl);(focus (first|rfl|(simp only [z1,zn];done))))|((with_reducible apply TX.cond_false);(focus rfl);(focus (first|rfl|(simp only [z1,zn];done))))|fail)
    obtain ⟨v8,h1,hr⟩:=bs hr
    apply TO.cal (wn T) rfl goFn98 (pulse_refuse_c1_11f9_spec h1) rfl rfl rfl
    repeat exact sd T
    refine wa_ T (g:=?_)
    rcases ifs hr with ⟨h2,hr⟩|⟨h2,hr⟩
    · have T:=an h2 T
      refine wa_ T (g:=?_)
      cases hr
      refine ⟨.inr rfl,_,(ry T),?_⟩
      exact wk_ T [] rfl .nil
    · have T:=an h2 T
      refine wa_ T (g:=?_)
      refine TX.unroll ?_
      repeat (first|(with_reducible first|refine mv ?_|refine TO.nil ?_)|((with_reducible first|apply TO.bin|apply TO.ia|apply TO.ld|apply TO.asg|apply TO.mv);(repeat (focus (show _ = _;first|exact k1 rfl|exact k2 rfl|(simp only [zz,y11,e_c,Nat.reduceAdd,Nat.reduceMul,Nat.reduceLeDiff,Nat.reduceEqDiff,tindexAddr,z5,Int.reduceToNat,Int.reduceLE,Int.reduceLT,Int.cast_ofNat_Int,tload,rowOf,partT,List.getElem?_map,h2]<;>exact rfl)|exact rfl)));(with_reducible apply TO.here))|((with_reducible apply TX.region);(focus (simp only [zl]<;>exact rfl));(focus rfl);(try dsimp only))|((with_reducible apply TX.cond_true);(focus rfl);(focus (first|rfl|(simp only [z1,zn,h2];done))))|((with_reducible apply TX.cond_false);(focus rfl);(focus (first|rfl|(simp only [z1,zn,h2];done))))|fail)
      obtain ⟨v9,h3,hr⟩:=bs hr
      apply TO.cal (wn T) rfl goFn98 (pulse_refuse_c1_11f9_spec h3) rfl rfl rfl
      repeat exact sd T
      refine wa_ T (g:=?_)
      rcases ifs hr with ⟨h4,hr⟩|⟨h4,hr⟩
      · have T:=an h4 T
        refine wa_ T (g:=?_)
        cases hr
        refine ⟨.inr rfl,_,(ry T),?_⟩
        exact wk_ T [] rfl .nil
      · have T:=an h4 T
        refine wa_ T (g:=?_)
        refine TX.unroll ?_
        repeat (first|(with_reducible first|refine mv ?_|refine TO.nil ?_)|((with_reducible first|apply TO.bin|apply TO.ia|apply TO.ld|apply TO.asg|apply TO.mv);(repeat (focus (show _ = _;first|exact k1 rfl|exact k2 rfl|(simp only [zz,y11,e_c,Nat.reduceAdd,Nat.reduceMul,Nat.reduceLeDiff,Nat.reduceEqDiff,tindexAddr,z5,Int.reduceToNat,Int.reduceLE,Int.reduceLT,Int.cast_ofNat_Int,tload,rowOf,partT,List.getElem?_map,h2,h4]<;>exact rfl)|exact rfl)));(with_reducible apply TO.here))|((with_reducible apply TX.region);(focus (simp only [zl]<;>exact rfl));(focus rfl);(try dsimp only))|((with_reducible apply TX.cond_true);(focus rfl);(focus (first|rfl|(simp only [z1,zn,h2,h4];done))))|((with_reducible apply TX.cond_false);(focus rfl);(focus (first|rfl|(simp only [z1,zn,h2,h4];done))))|fail)
        obtain ⟨v10,h5,hr⟩:=bs hr
        apply TO.cal (wn T) rfl goFn100 (pulse_each_c1_b362_spec h5) rfl rfl rfl
        repeat exact sd T
        refine wa_ T (g:=?_)
        rcases ifs hr with ⟨h6,hr⟩|⟨h6,hr⟩
        · have T:=an h6 T
          refine wa_ T (g:=?_)
          cases hr
          refine ⟨.inr rfl,_,(ry T),?_⟩
          exact wk_ T [] rfl .nil
        · have T:=an h6 T
          refine wa_ T (g:=?_)
          refine TX.unroll ?_
          refine wa_ T (g:=?_)
          cases hr
          refine ⟨.inr rfl,_,(ry T),?_⟩
          exact wk_ T [] rfl .nil
  rfl

end Go.Rex

namespace Go.Rex
open Go.Proofs
open Go Go.Rex Go.RowKit
set_option maxRecDepth 100000
set_option maxHeartbeats 200000
def y12:=an @ag31 <| an @cs80 <| an @so128 <| an @so31 <| @zc80
theorem pulse_listed_c1_f1d2_spec {v1 : (List (Nat × Nat))} {v2 : Int} (hr : pulse_listed_c1_f1d2 v1 = some (v2)) : Spec (lim Try.prog) 82 [.fptr true [.list 1 (v1.map e_c)] 0] ⟨[.v (.int .i64 v2)],[]⟩:=by
  unfold pulse_listed_c1_f1d2 at hr
  have T:=an y12 <| @e_c.eq_1
  apply Spec.fn Try.func82 rfl
  focus (simp [Try.f82]<;>exact rfl)
  focus
    refine wC T (g:=?_)
    obtain ⟨⟨v3,v4⟩,h1,hr⟩:=bs hr
    try dsimp only at hr
    apply TD.cal (wn T) rfl goFn55 (pulse_refuse_spec h1) rfl rfl rfl
    repeat exact sd T
    refine wC T (g:=?_)
    obtain ⟨⟨v5,v6⟩,h2,hr⟩:=bs hr
    try dsimp only at hr
    apply TD.cal (wn T) rfl goFn55 (pulse_refuse_spec h2) rfl rfl rfl
    repeat exact sd T
    refine wC T (g:=?_)
    obtain ⟨⟨v7,v8⟩,h3,hr⟩:=bs hr
    try dsimp only at hr
    apply TD.cal (wn T) rfl goFn65 (pulse_each_e848_spec h3) rfl rfl rfl
    repeat exact sd T
    refine we_ T (g:=?_)
    obtain ⟨v9,h4,hr⟩:=bs hr
    apply TD.cal (wn T) rfl goFn33 (pulse_firstError_046d_spec h4) rfl rfl rfl
    repeat exact sd T
    refine wa_ T (g:=?_)
    cases hr
    refine ⟨.inr rfl,_,(ry T),?_⟩
    exact wr [] rfl .nil
  rfl

end Go.Rex

namespace Go.Rex
open Go.Proofs
open Go Go.Rex Go.RowKit
set_option maxRecDepth 100000
set_option maxHeartbeats 200000
def y13:=an @ag80 <| an @cs80 <| an @ok80 <| an @so128 <| an @wi64_0a1 <| an @wi64_1a1 <| @wi64_2a1
theorem pulse_firstError_a59d_spec {v1 : (List (Nat × Nat))} {v2 : (List (Nat × Nat))} {v3 : Bool} {v4 : Int} {v5 : Int} (hr : pulse_firstError_a59d v1 v2 v3 v4 = some (v5)) : Spec (lim Try.prog) 33 [.list 1 [[.func 82 [] [.fptr true [.list 1 (v1.map e_c)] 0]],[.func 82 [] [.fptr true [.list 1 (v2.map e_c)] 0]],[.func 98 [] [.fptr true [.v (.bool v3)] 0,.fptr true [.v (.int .i64 v4)] 0]]]] ⟨[.v (.int .i64 v5)],[]⟩:=by
  unfold pulse_firstError_a59d at hr
  have T:=an y13 <| @e_c.eq_1
  apply Spec.fn Try.func33 rfl
  focus (simp [Try.f33]<;>exact rfl)
  focus
    refine wc_ T (g:=?_)
    refine TX.unroll ?_
    repeat (first|(with_reducible first|refine mv ?_|refine TO.nil ?_)|((with_reducible first|apply TO.bin|apply TO.ia|apply TO.ld|apply TO.asg|apply TO.mv);(repeat (focus (show _ = _;first|exact k1 rfl|exact k2 rfl|(simp only [zz,y13,e_c,Nat.reduceAdd,Nat.reduceMul,Nat.reduceLeDiff,Nat.reduceEqDiff,tindexAddr,z5,Int.reduceToNat,Int.reduceLE,Int.reduceLT,Int.cast_ofNat_Int,tload,rowOf,partT,List.getElem?_map]<;>exact rfl)|exact rfl)));(with_reducible apply TO.here))|((with_reducible apply TX.region);(focus (simp only [zl]<;>exact rfl));(focus rfl);(try dsimp only))|((with_reducible apply TX.cond_true);(focus rfl);(focus (first|rfl|(simp only [z1,zn];done))))|((with_reducible apply TX.cond_false);(focus rfl);(focus (first|rfl|(simp only [z1,zn];done))))|fail)
    obtain ⟨v6,h1,hr⟩:=bs hr
    apply TO.cal (wn T) rfl goFn82 (pulse_listed_c1_f1d2_spec h1) rfl rfl rfl
    repeat exact sd T
    refine wa_ T (g:=?_)
    rcases ifs hr with ⟨h2,hr⟩|⟨h2,hr⟩
    · have T:=an h2 T
      refine wa_ T (g:=?_)
      cases hr
      refine ⟨.inr rfl,_,(ry T),?_⟩
      exact wk_ T [] rfl .nil
    · have T:=an h2 T
      refine wa_ T (g:=?_)
      refine TX.unroll ?_
      repeat (first|(with_reducible first|refine mv ?_|refine TO.nil ?_)|((with_reducible first|apply TO.bin|apply TO.ia|apply TO.ld|apply TO.asg|apply TO.mv);(repeat (focus (show _ = _;first|exact k1 rfl|exact k2 rfl|(simp only [zz,y13,e_c,Nat.reduceAdd,Nat.reduceMul,Nat.reduceLeDiff,Nat.reduceEqDiff,tindexAddr,z5,Int.reduceToNat,Int.reduceLE,Int.reduceLT,Int.cast_ofNat_Int,tload,rowOf,partT,List.getElem?_map,h2]<;>exact rfl)|exact rfl)));(with_reducible apply TO.here))|((with_reducible apply TX.region);(focus (simp only [zl]<;>exact rfl));(focus rfl);(try dsimp only))|((with_reducible apply TX.cond_true);(focus rfl);(focus (first|rfl|(simp only [z1,zn,h2];done))))|((with_reducible apply TX.cond_false);(focus rfl);(focus (first|rfl|(simp only [z1,zn,h2];done))))|fail)
      obtain ⟨v7,h3,hr⟩:=bs hr
      apply TO.cal (wn T) rfl goFn82 (pulse_listed_c1_f1d2_spec h3) rfl rfl rfl
      repeat exact sd T
      refine wa_ T (g:=?_)
      rcases ifs hr with ⟨h4,hr⟩|⟨h4,hr⟩
      · have T:=an h4 T
        refine wa_ T (g:=?_)
        cases hr
        refine ⟨.inr rfl,_,(ry T),?_⟩
        exact wk_ T [] rfl .nil
      · have T:=an h4 T
        refine wa_ T (g:=?_)
        refine TX.unroll ?_
        repeat (first|(with_reducible first|refine mv ?_|refine TO.nil ?_)|((with_reducible first|apply TO.bin|apply TO.ia|apply TO.ld|apply TO.asg|apply TO.mv);(repeat (focus (show _ = _;first|exact k1 rfl|exact k2 rfl|(simp only [zz,y13,e_c,Nat.reduceAdd,Nat.reduceMul,Nat.reduceLeDiff,Nat.reduceEqDiff,tindexAddr,z5,Int.reduceToNat,Int.reduceLE,Int.reduceLT,Int.cast_ofNat_Int,tload,rowOf,partT,List.getElem?_map,h2,h4]<;>exact rfl)|exact rfl)));(with_reducible apply TO.here))|((with_reducible apply TX.region);(focus (simp only [zl]<;>exact rfl));(focus rfl);(try dsimp only))|((with_reducible apply TX.cond_true);(focus rfl);(focus (first|rfl|(simp only [z1,zn,h2,h4];done))))|((with_reducible apply TX.cond_false);(focus rfl);(focus (first|rfl|(simp only [z1,zn,h2,h4];done))))|fail)
        obtain ⟨v8,h5,hr⟩:=bs hr
        apply TO.cal (wn T) rfl goFn98 (pulse_refuse_c1_11f9_spec h5) rfl rfl rfl
        repeat exact sd T
        refine wa_ T (g:=?_)
        rcases ifs hr with ⟨h6,hr⟩|⟨h6,hr⟩
        · have T:=an h6 T
          refine wa_ T (g:=?_)
          cases hr
          refine ⟨.inr rfl,_,(ry T),?_⟩
          exact wk_ T [] rfl .nil
        · have T:=an h6 T
          refine wa_ T (g:=?_)
          refine TX.unroll ?_
          refine wa_ T (g:=?_)
          cases hr
          refine ⟨.inr rfl,_,(ry T),?_⟩
          exact wk_ T [] rfl .nil
  rfl

end Go.Rex

namespace Go.Rex
open Go.Proofs
open Go Go.Rex Go.RowKit
set_option maxRecDepth 100000
set_option maxHeartbeats 200000
def y14:=an @ag109 <| an @cs109 <| an @ok109 <| an @st109 <| an @un3 <| an @un51 <| @zc109
theorem pulse_numberOf_spec {v1 : Nat} {v2 : Nat} {v3 : Int} {v4 : Int} (hr : pulse_numberOf v1 v2 = some (v3,v4)) : Spec (lim Try.prog) 67 [.v (.complex .f32 v1 v2)] ⟨[.agg [.v (.int .i64 v3),.v (.int .i64 v4)]],[]⟩:=by
  unfold pulse_numberOf at hr
  have T:=y14
  apply Spec.fn Try.func67 rfl
  focus (simp [Try.f67]<;>exact rfl)
  focus
    refine wa_ T (g:=?_)
    apply TO.pop1 (wn T) (pop_real rfl)
    repeat exact sd T
    refine wa_ T (g:=?_)
    obtain ⟨v5,h1,hr⟩:=bs hr
    apply TO.pop1 (wn T) (cvt_float_int un51 un3 rfl h1)
    repeat exact sd T
    refine wa_ T (g:=?_)
    apply TO.pop1 (wn T) (pop_imag rfl)
    repeat exact sd T
    refine wa_ T (g:=?_)
    obtain ⟨v6,h2,hr⟩:=bs hr
    apply TO.pop1 (wn T) (cvt_float_int un51 un3 rfl h2)
    repeat exact sd T
    refine wa_ T (g:=?_)
    cases hr
    refine ⟨.inr rfl,_,(ry T),?_⟩
    exact wr [] rfl .nil
  rfl

end Go.Rex

namespace Go.Rex
open Go.Proofs
open Go Go.Rex Go.RowKit
set_option maxRecDepth 100000
set_option maxHeartbeats 200000
def y15:=an @ag49 <| an @by109 <| an @cs109 <| an @cs49 <| an @ni84 <| an @ok49 <| an @so31 <| an @so84 <| an @zc109 <| @wi64_0a1
theorem pulse_numbersOf_spec {v1 : (List (Nat × Nat))} {v2 : (List (Int × Int))} (hr : pulse_numbersOf v1 = some (v2)) : Spec (lim Try.prog) 38 [.list 1 (v1.map e_c)] ⟨[.lsl 0 0 v2.length],[.rows 2 (v2.map e_ii)]⟩:=by
  unfold pulse_numbersOf at hr
  have T:=an y15 <| an @e_c.eq_1 <| @e_ii.eq_1
  apply Spec.fn Try.func38 rfl
  focus (simp [Try.f38]<;>exact rfl)
  focus
    refine wc_ T (g:=?_)
    apply TX.vt (α:=(Int × Int)) e_ii 3 2 rfl
    repeat exact sd T
    with_reducible apply TX.here
    refine wa_ T (g:=?_)
    obtain ⟨v16,h9,hr⟩:=bs hr
    refine TX.loopE (step:=pulse_numbersOf_l1 v1) (x:=(([] : List (Int × Int)),0)) h9 (fun (v3,v4)=>⟨.junk :: .junk :: .junk :: .lsl 0 0 v3.length :: .junk :: .junk :: .list 1 (v1.map e_c) :: .v (.int .i64 (v1.length : Int)) :: .v (.int .i64 v4) :: .junk :: .junk :: .junk :: .junk :: .junk :: .junk :: .junk :: .junk :: .junk :: .junk :: [],[.rows 2 (v3.map e_ii)]⟩) (fun v10=>(.exit 0,⟨.junk :: .junk :: .junk :: .lsl 0 0 v10.length :: .junk :: .junk :: .junk :: .junk :: .junk :: .junk :: .junk :: .junk :: .junk :: .junk :: .junk :: .junk :: .junk :: .junk :: .junk :: [],[.rows 2 (v10.map e_ii)]⟩)) ?_ ?_ ?_ ?_
    · rintro ⟨v3,v4⟩ v0 hr
      dsimp only [pulse_numbersOf_l1] at hr
      try dsimp only
      refine wa_ T (g:=?_)
      rcases ifs hr with ⟨h5,hr⟩|⟨h5,hr⟩
      · have T:=an h5 T
        refine wa_ T (g:=?_)
        obtain ⟨⟨v11,v12⟩,h6,hr⟩:=bs hr
        try dsimp only at hr
        have h6m:=tidx_map (f:=e_c) h6
        have h6l:=getI_lt h6
        try simp only [List.length_set] at h6l
        have h6a:=getI_at h6
        have T:=an h6m T
        have T:=an h6l T
        have T:=an h6a T
        refine wA T (g:=?_)
        obtain ⟨⟨v13,v14⟩,h7,hr⟩:=bs hr
        try dsimp only at hr
        apply TO.cal (wn T) rfl goFn67 (pulse_numberOf_spec h7) rfl rfl rfl
        repeat exact sd T
        refine wa_ T (g:=?_)
        apply TO.bm e_ii ([(v13,v14)] : List (Int × Int)) (wn T) rfl (by simp only [zz,y15,e_c,e_ii,Nat.reduceAdd,Nat.reduceMul,Nat.reduceLeDiff,Nat.reduceEqDiff,tslice,tparts,h5,h6m,h6l,h6a];exact rfl) rfl
        repeat exact sd T
        refine wa_ T (g:=?_)
        obtain ⟨v15,h8,hr⟩:=bs hr
        apply TO.ap (f:=e_ii) (xs:=v3) (ys:=([(v13,v14)] : List (Int × Int))) (wn T) rfl rfl (by first|rfl|simp only [List.length_set]) rfl rfl so84 ni84 zc109 rfl (by rw [by109];exact h8) (fun _=>⟨rfl,rfl,rfl⟩)
        repeat exact sd T
        refine wa_ T (g:=?_)
        cases hr
        refine ⟨rfl,?_⟩
        exact wk_ T [some 0] rfl (.rows .nil rfl rfl)
      · have T:=an h5 T
        refine wa_ T (g:=?_)
        cases hr
        refine ⟨rfl,?_⟩
        exact wk_ T [some 0] rfl (.rows .nil rfl rfl)
    · intro e h;cases h
    · try dsimp only
      refine wa_ T (g:=?_)
      cases hr
      refine ⟨.inr rfl,_,(ry T),?_⟩
      exact wr [some 0] rfl (.rows .nil rfl rfl)
    · try dsimp only
      exact wr [some 0] rfl (.rows .nil rfl rfl)
  rfl

end Go.Rex

namespace Go.Rex
open Go.Proofs
open Go Go.Rex Go.RowKit
set_option maxRecDepth 100000
set_option maxHeartbeats 200000
def y16:=an @ag109 <| an @ag3 <| an @cs109 <| an @fd109_0 <| an @fd109_1 <| an @ok109 <| an @st109 <| @zc109
theorem pulse_number_times_spec {v1 : Int} {v2 : Int} {v3 : Int} {v4 : Int} {v5 : Int} {v6 : Int} (hr : pulse_number_times v1 v2 v3 v4 = some (v5,v6)) : Spec (lim Try.prog) 60 [.agg [.v (.int .i64 v1),.v (.int .i64 v2)],.agg [.v (.int .i64 v3),.v (.int .i64 v4)]] ⟨[.agg [.v (.int .i64 v5),.v (.int .i64 v6)]],[]⟩:=by
  unfold pulse_number_times at hr
  have T:=y16
  apply Spec.fn Try.func60 rfl
  focus (simp [Try.f60]<;>exact rfl)
  focus
    refine wB T (g:=?_)
    cases hr
    refine ⟨.inr rfl,_,(ry T),?_⟩
    exact wr [] rfl .nil
  rfl

end Go.Rex

namespace Go.Rex
open Go.Proofs
open Go Go.Rex Go.RowKit
set_option maxRecDepth 100000
set_option maxHeartbeats 200000
def y17:=an @ag109 <| an @ag3 <| an @cs109 <| an @fd109_0 <| an @fd109_1 <| an @ok109 <| an @st109 <| @zc109
theorem pulse_number_plus_spec {v1 : Int} {v2 : Int} {v3 : Int} {v4 : Int} {v5 : Int} {v6 : Int} (hr : pulse_number_plus v1 v2 v3 v4 = some (v5,v6)) : Spec (lim Try.prog) 73 [.agg [.v (.int .i64 v1),.v (.int .i64 v2)],.agg [.v (.int .i64 v3),.v (.int .i64 v4)]] ⟨[.agg [.v (.int .i64 v5),.v (.int .i64 v6)]],[]⟩:=by
  unfold pulse_number_plus at hr
  have T:=y17
  apply Spec.fn Try.func73 rfl
  focus (simp [Try.f73]<;>exact rfl)
  focus
    refine wB T (g:=?_)
    cases hr
    refine ⟨.inr rfl,_,(ry T),?_⟩
    exact wr [] rfl .nil
  rfl

end Go.Rex

namespace Go.Rex
open Go.Proofs
open Go Go.Rex Go.RowKit
set_option maxRecDepth 100000
set_option maxHeartbeats 1000000
def y18:=an @ag109 <| an @by109 <| an @cs109 <| an @ok109 <| an @so84 <| an @zc109 <| an @wi64_0a0 <| @wi64_0a1
theorem pulse_swept_spec {v1 : (List (Int × Int))} {v2 : (List (Int × Int))} {v3 : (List (Int × Int))} (hr : pulse_swept v1 v2 = some (v3)) : Spec (lim Try.prog) 56 [.list 2 (v1.map e_ii),.list 2 (v2.map e_ii)] ⟨[.lsl 0 0 v3.length],[.rows 2 (v3.map e_ii)]⟩:=by
  unfold pulse_swept at hr
  have T:=an y18 <| @e_ii.eq_1
  apply Spec.fn Try.func56 rfl
  focus (simp [Try.f56]<;>exact rfl)
  focus
    refine wc_ T (g:=?_)
    obtain ⟨v4,h1,hr⟩:=bs hr
    apply TO.mk e_ii h1 (wn T) rfl rfl so84 zc109 by109 rfl rfl rfl
    repeat exact sd T
    refine wc_ T (g:=?_)
    obtain ⟨v52,h28,hr⟩:=bs hr
    refine TX.loopE (step:=pulse_swept_l1 v1 v2) (x:=(v4,0)) h28 (fun (v5,v6)=>⟨.junk :: .list 2 (v2.map e_ii) :: .junk :: .junk :: .junk :: .lsl 0 0 v5.length :: .junk :: .junk :: .junk :: .junk :: .junk :: .junk :: .junk :: .junk :: .junk :: .junk :: .junk :: .list 2 (v1.map e_ii) :: .v (.int .i64 (v1.length : Int)) :: .v (.int .i64 v6) :: .junk :: .junk :: .junk :: .junk :: .junk :: .junk :: .junk :: .junk :: .junk :: .junk :: .junk :: .junk :: .junk :: .junk :: .junk :: .junk :: .junk :: .junk :: .junk :: .junk :: .junk :: .junk :: .junk :: .junk :: .junk :: .junk :: .junk :: .junk :: .junk :: [],[.rows 2 (v5.map e_ii)]⟩) (fun v29=>(.exit 0,⟨.junk :: .junk :: .junk :: .junk :: .junk :: .lsl 0 0 v29.length :: .junk :: .junk :: .junk :: .junk :: .junk :: .junk :: .junk :: .junk :: .junk :: .junk :: .junk :: .junk :: .junk :: .junk :: .junk :: .junk :: .junk :: .junk :: .junk :: .junk :: .junk :: .junk :: .junk :: .junk :: .junk :: .junk :: .junk :: .junk :: .junk :: .junk :: .junk :: .junk :: .junk :: .junk :: .junk :: .junk :: .junk :: .junk :: .junk :: .junk :: .junk :: .junk :: .junk :: [],[.rows 2 (v29.map e_ii)]⟩)) ?_ ?_ ?_ ?_
    · rintro ⟨v5,v6⟩ v0 hr
      dsimp only [pulse_swept_l1] at hr
      try dsimp only
      refine wa_ T (g:=?_)
      rcases ifs hr with ⟨h15,hr⟩|⟨h15,hr⟩
      · have T:=an h15 T
        refine wa_ T (g:=?_)
        obtain ⟨⟨v30,v31⟩,h16,hr⟩:=bs hr
        try dsimp only at hr
        have T:=an (gx e_ii h16) T
        refine wC T (g:=?_)
        obtain ⟨v51,h27,hr⟩:=bs hr
        refine TX.loopE (step:=pulse_swept_l2 v2 v6 v30 v31) (x:=(v5,0)) h27 (fun (v32,v33)=>⟨.junk :: .list 2 (v2.map e_ii) :: .junk :: .junk :: .junk :: .lsl 0 0 v32.length :: .v (.int .i64 v6) :: .lptr 1 0 0 :: .junk :: .junk :: .junk :: .junk :: .junk :: .junk :: .junk :: .junk :: .junk :: .list 2 (v1.map e_ii) :: .v (.int .i64 (v1.length : Int)) :: .v (.int .i64 v6) :: .junk :: .junk :: .junk :: .junk :: .list 2 (v2.map e_ii) :: .v (.int .i64 (v2.length : Int)) :: .v (.int .i64 v33) :: .junk :: .junk :: .junk :: .junk :: .junk :: .junk :: .junk :: .junk :: .junk :: .junk :: .junk :: .junk :: .junk :: .junk :: .junk :: .junk :: .junk :: .junk :: .junk :: .junk :: .junk :: .junk :: [],[.rows 2 (v32.map e_ii),.var [.v (.int .i64 v30),.v (.int .i64 v31)]]⟩) (fun v42=>(.exit 2,⟨.junk :: .list 2 (v2.map e_ii) :: .junk :: .junk :: .junk :: .lsl 0 0 v42.length :: .junk :: .junk :: .junk :: .junk :: .junk :: .junk :: .junk :: .junk :: .junk :: .junk :: .junk :: .list 2 (v1.map e_ii) :: .v (.int .i64 (v1.length : Int)) :: .v (.int .i64 v6) :: .junk :: .junk :: .junk :: .junk :: .junk :: .junk :: .junk :: .junk :: .junk :: .junk :: .junk :: .junk :: .junk :: .junk :: .junk :: .junk :: .junk :: .junk :: .junk :: .junk :: .junk :: .junk :: .junk :: .junk :: .junk :: .junk :: .junk :: .junk :: .junk :: [],[.rows 2 (v42.map e_ii)]⟩)) ?_ ?_ ?_ ?_
        · rintro ⟨v32,v33⟩ v0 hr
          dsimp only [pulse_swept_l2] at hr
          try dsimp only
          refine wa_ T (g:=?_)
          rcases ifs hr with ⟨h22,hr⟩|⟨h22,hr⟩
          · have T:=an h22 T
            refine wa_ T (g:=?_)
            obtain ⟨⟨v43,v44⟩,h23,hr⟩:=bs hr
            try dsimp only at hr
            have T:=an (gx e_ii h23) T
            refine wA T (g:=?_)
            obtain ⟨⟨v45,v46⟩,h24,hr⟩:=bs hr
            try dsimp only at hr
            have h24m:=tidx_map (f:=e_ii) h24
            have h24l:=getI_lt h24
            try simp only [List.length_set] at h24l
            have h24a:=getI_at h24
            have T:=an h24m T
            have T:=an h24l T
            have T:=an h24a T
            refine wA T (g:=?_)
            obtain ⟨⟨v47,v48⟩,h25,hr⟩:=bs hr
            try dsimp only at hr
            apply TD.cal (wn T) rfl goFn60 (pulse_number_times_spec h25) rfl rfl rfl
            repeat exact sd T
            refine wa_ T (g:=?_)
            obtain ⟨⟨v49,v50⟩,h26,hr⟩:=bs hr
            try dsimp only at hr
            apply TD.cal (wn T) rfl goFn73 (pulse_number_plus_spec h26) rfl rfl rfl
            repeat exact sd T
            refine wa_ T (g:=?_)
            apply TD.sr e_ii v32 (v45,v46) (v49,v50) h24a (wn T) rfl rfl rfl rfl rfl ok109 (by rw [cs109];rfl) rfl rfl rfl rfl rfl
            repeat exact sd T
            refine wa_ T (g:=?_)
            cases hr
            refine ⟨rfl,?_⟩
            exact wk_ T [some 0,some 1] rfl (.rows (rv .nil rfl) rfl rfl)
          · have T:=an h22 T
            refine wa_ T (g:=?_)
            cases hr
            refine ⟨rfl,?_⟩
            exact wk_ T [some 0] rfl (.rows .nil rfl rfl)
        · intro e h;cases h
        · try dsimp only
          refine wa_ T (g:=?_)
          cases hr
          refine ⟨rfl,?_⟩
          exact wk_ T [some 0] rfl (.rows .nil rfl rfl)
        · try dsimp only
          exact wk_ T [some 0,some 1] rfl (.rows (rv .nil rfl) rfl rfl)
      · have T:=an h15 T
        refine wa_ T (g:=?_)
        cases hr
        refine ⟨rfl,?_⟩
        exact wk_ T [some 0] rfl (.rows .nil rfl rfl)
    · intro e h;cases h
    · try dsimp only
      refine wa_ T (g:=?_)
      cases hr
      refine ⟨.inr rfl,_,(ry T),?_⟩
      exact wr [some 0] rfl (.rows .nil rfl rfl)
    · try dsimp only
      exact wr [some 0] rfl (.rows .nil rfl rfl)
  rfl

end Go.Rex

namespace Go.Rex
open Go.Proofs
open Go Go.Rex Go.RowKit
set_option maxRecDepth 100000
set_option maxHeartbeats 200000
theorem pulse_each_3571_spec {v1 : Int} {v2 : (List (Int × Int))} {v3 : Int} {v4 : (List (Int × Int))} (hr : pulse_each_3571 v1 v2 = some (v3,v4)) : Spec (lim Try.prog) 65 [.v (.int .i64 v1),.func 85 [] [.fptr true [.list 2 (v2.map e_ii)] 0]] ⟨[.func 100 [] [.fptr true [.v (.int .i64 v3)] 0,.fptr true [.func 85 [] [.fptr true [.list 2 (v4.map e_ii)] 0]] 0]],[]⟩:=by
  unfold pulse_each_3571 at hr
  have T:=@e_ii.eq_1
  apply Spec.fn Try.func65 rfl
  focus (simp [Try.f65]<;>exact rfl)
  focus
    refine wb_ T (g:=?_)
    cases hr
    refine ⟨.inr rfl,_,(ry T),?_⟩
    exact wr [] rfl .nil
  rfl

end Go.Rex

namespace Go.Rex
open Go.Proofs
open Go Go.Rex Go.RowKit
set_option maxRecDepth 100000
set_option maxHeartbeats 200000
theorem pulse_isSmall_int_spec {v1 : Int} {v2 : Int} {v3 : Bool} (hr : pulse_isSmall_int v1 v2 = some (v3)) : Spec (lim Try.prog) 101 [.v (.int .i64 v1),.v (.int .i64 v2)] ⟨[.v (.bool v3)],[]⟩:=by
  unfold pulse_isSmall_int at hr
  have T:=trivial
  apply Spec.fn Try.func101 rfl
  focus (simp [Try.f101]<;>exact rfl)
  focus
    refine wa_ T (g:=?_)
    apply TO.pop1 (wn T) (pop_neg rfl)
    repeat exact sd T
    refine wa_ T (g:=?_)
    rcases ifs hr with ⟨h1,hr⟩|⟨h1,hr⟩
    · have T:=an h1 T
      refine wa_ T (g:=?_)
      cases hr
      refine ⟨.inr rfl,_,(ry T),?_⟩
      exact wk_ T [] rfl .nil
    · have T:=an h1 T
      refine wa_ T (g:=?_)
      cases hr
      refine ⟨.inr rfl,_,(ry T),?_⟩
      exact wk_ T [] rfl .nil
  rfl

end Go.Rex

namespace Go.Rex
open Go.Proofs
open Go Go.Rex Go.RowKit
set_option maxRecDepth 100000
set_option maxHeartbeats 200000
def y19:=an @ag3 <| an @fd109_0 <| @fd109_1
theorem pulse_number_small_spec {v1 : Int} {v2 : Int} {v3 : Int} {v4 : Bool} {v5 : Int} (hr : pulse_number_small v1 v2 v3 = some (v4,v5)) : Spec (lim Try.prog) 68 [.agg [.v (.int .i64 v1),.v (.int .i64 v2)],.v (.int .i64 v3)] ⟨[.func 98 [] [.fptr true [.v (.bool v4)] 0,.fptr true [.v (.int .i64 v5)] 0]],[]⟩:=by
  unfold pulse_number_small at hr
  have T:=y19
  apply Spec.fn Try.func68 rfl
  focus (simp [Try.f68]<;>exact rfl)
  focus
    refine wB T (g:=?_)
    obtain ⟨v6,h1,hr⟩:=bs hr
    apply TO.cal (wn T) rfl goFn101 (pulse_isSmall_int_spec h1) rfl rfl rfl
    repeat exact sd T
    refine wa_ T (g:=?_)
    apply TO.pop1 (wn T) (pop_not rfl)
    repeat exact sd T
    refine wa_ T (g:=?_)
    rcases ifs hr with ⟨h2,hr⟩|⟨h2,hr⟩
    · have T:=an h2 T
      refine wA T (g:=?_)
      obtain ⟨v7,h3,hr⟩:=bs hr
      apply TO.cal (wn T) rfl goFn101 (pulse_isSmall_int_spec h3) rfl rfl rfl
      repeat exact sd T
      refine wa_ T (g:=?_)
      apply TO.pop1 (wn T) (pop_not rfl)
      repeat exact sd T
      refine wa_ T (g:=?_)
      obtain ⟨⟨v8,v9⟩,h4,hr⟩:=bs hr
      try dsimp only at hr
      apply TO.cal (wn T) rfl goFn55 (pulse_refuse_spec h4) rfl rfl rfl
      repeat exact sd T
      refine wa_ T (g:=?_)
      cases hr
      refine ⟨.inr rfl,_,(ry T),?_⟩
      exact wk_ T [] rfl .nil
    · have T:=an h2 T
      refine wa_ T (g:=?_)
      obtain ⟨⟨v10,v11⟩,h5,hr⟩:=bs hr
      try dsimp only at hr
      apply TO.cal (wn T) rfl goFn55 (pulse_refuse_spec h5) rfl rfl rfl
      repeat exact sd T
      refine wa_ T (g:=?_)
      cases hr
      refine ⟨.inr rfl,_,(ry T),?_⟩
      exact wk_ T [] rfl .nil
  rfl

end Go.Rex

namespace Go.Rex
open Go.Proofs
open Go Go.Rex Go.RowKit
set_option maxRecDepth 100000
set_option maxHeartbeats 200000
def y20:=an @ag109 <| an @ag84 <| an @cs109 <| an @ok109 <| @so84
theorem pulse_recorded_c1_cff2_spec {v1 : Int} {v2 : (List (Int × Int))} {v3 : Int} (hr : pulse_recorded_c1_cff2 v1 v2 = some (v3)) : Spec (lim Try.prog) 85 [.v (.int .i64 v1),.fptr true [.list 2 (v2.map e_ii)] 0] ⟨[.v (.int .i64 v3)],[]⟩:=by
  unfold pulse_recorded_c1_cff2 at hr
  have T:=an y20 <| @e_ii.eq_1
  apply Spec.fn Try.func85 rfl
  focus (simp [Try.f85]<;>exact rfl)
  focus
    refine wA T (g:=?_)
    obtain ⟨⟨v4,v5⟩,h1,hr⟩:=bs hr
    try dsimp only at hr
    have T:=an (gx e_ii h1) T
    refine wA T (g:=?_)
    obtain ⟨⟨v6,v7⟩,h2,hr⟩:=bs hr
    try dsimp only at hr
    apply TO.cal (wn T) rfl goFn68 (pulse_number_small_spec h2) rfl rfl rfl
    repeat exact sd T
    refine wa_ T (g:=?_)
    obtain ⟨v8,h3,hr⟩:=bs hr
    apply TO.cal (wn T) rfl goFn98 (pulse_refuse_c1_11f9_spec h3) rfl rfl rfl
    repeat exact sd T
    refine wa_ T (g:=?_)
    cases hr
    refine ⟨.inr rfl,_,(ry T),?_⟩
    exact wr [] rfl .nil
  rfl

end Go.Rex

namespace Go.Rex
open Go.Proofs
open Go Go.Rex Go.RowKit
set_option maxRecDepth 100000
set_option maxHeartbeats 200000
def y21:=an @ag118 <| an @ag3 <| @wi64_0a1
theorem pulse_each_c1_82ab_spec {v1 : Int} {v2 : (List (Int × Int))} {v3 : Int} (hr : pulse_each_c1_82ab v1 v2 = some (v3)) : Spec (lim Try.prog) 100 [.fptr true [.v (.int .i64 v1)] 0,.fptr true [.func 85 [] [.fptr true [.list 2 (v2.map e_ii)] 0]] 0] ⟨[.v (.int .i64 v3)],[]⟩:=by
  unfold pulse_each_c1_82ab at hr
  have T:=an y21 <| @e_ii.eq_1
  apply Spec.fn Try.func100 rfl
  focus (simp [Try.f100]<;>exact rfl)
  focus
    refine wA T (g:=?_)
    obtain ⟨v8,h7,hr⟩:=bs hr
    refine TX.loopE (step:=pulse_each_c1_82ab_l1 v1 v2) (x:=0) h7 (fun v4=>⟨.junk :: .fptr true [.func 85 [] [.fptr true [.list 2 (v2.map e_ii)] 0]] 0 :: .junk :: .junk :: .junk :: .v (.int .i64 v1) :: .v (.int .i64 v4) :: .junk :: .junk :: .junk :: .junk :: .junk :: .junk :: .junk :: .junk :: .junk :: [],[]⟩) (fun e=>match e with|(.inl v6)=>(.ret,⟨.junk :: .junk :: .v (.int .i64 v6) :: .junk :: .junk :: .junk :: .junk :: .junk :: .junk :: .junk :: .junk :: .junk :: .junk :: .junk :: .junk :: .junk :: [],[]⟩)|(.inr _)=>(.exit 0,⟨.junk :: .junk :: .junk :: .junk :: .junk :: .junk :: .junk :: .junk :: .junk :: .junk :: .junk :: .junk :: .junk :: .junk :: .junk :: .junk :: [],[]⟩)) ?_ ?_ ?_ ?_
    · rintro v4 v0 hr
      dsimp only [pulse_each_c1_82ab_l1] at hr
      try dsimp only
      refine wa_ T (g:=?_)
      rcases ifs hr with ⟨h4,hr⟩|⟨h4,hr⟩
      · have T:=an h4 T
        refine wA T (g:=?_)
        obtain ⟨v7,h5,hr⟩:=bs hr
        apply TO.cal (wn T) rfl goFn85 (pulse_recorded_c1_cff2_spec h5) rfl rfl rfl
        repeat exact sd T
        refine wa_ T (g:=?_)
        rcases ifs hr with ⟨h6,hr⟩|⟨h6,hr⟩
        · have T:=an h6 T
          refine wa_ T (g:=?_)
          cases hr
          refine ⟨rfl,?_⟩
          exact wk_ T [] rfl .nil
        · have T:=an h6 T
          refine wa_ T (g:=?_)
          cases hr
          refine ⟨rfl,?_⟩
          exact wk_ T [] rfl .nil
      · have T:=an h4 T
        refine wa_ T (g:=?_)
        cases hr
        refine ⟨rfl,?_⟩
        exact wk_ T [] rfl .nil
    · intro e h;rcases e with _|e<;>cases h
    · try dsimp only
      rcases v8 with v9|_
      · try dsimp only at hr
        try dsimp only
        refine wa_ T (g:=?_)
        cases hr
        refine ⟨.inr rfl,_,(ry T),?_⟩
        exact wr [] rfl .nil
      · try dsimp only at hr
        try dsimp only
        refine wa_ T (g:=?_)
        cases hr
        refine ⟨.inr rfl,_,(ry T),?_⟩
        exact wr [] rfl .nil
    · try dsimp only
      exact wr [] rfl .nil
  rfl

end Go.Rex

namespace Go.Rex
open Go.Proofs
open Go Go.Rex Go.RowKit
set_option maxRecDepth 100000
set_option maxHeartbeats 200000
def y22:=an @ag109 <| an @ag3 <| an @ag84 <| an @by49 <| an @cs109 <| an @cs49 <| an @fd109_0 <| an @fd109_1 <| an @ni31 <| an @ok109 <| an @so31 <| an @so84 <| an @un3 <| an @un51 <| an @zc109 <| an @zc49 <| @wi64_0a1
theorem pulse_recorded_spec {v1 : (List (Int × Int))} {v2 : (List (Nat × Nat))} {v3 : Int} (hr : pulse_recorded v1 = some (v2,v3)) : Spec (lim Try.prog) 36 [.list 2 (v1.map e_ii)] ⟨[.tuple [.lsl 0 0 v2.length,.v (.int .i64 v3)]],[.rows 1 (v2.map e_c)]⟩:=by
  unfold pulse_recorded at hr
  have T:=an y22 <| an @e_c.eq_1 <| @e_ii.eq_1
  apply Spec.fn Try.func36 rfl
  focus (simp [Try.f36]<;>exact rfl)
  focus
    refine wD T (g:=?_)
    obtain ⟨⟨v4,v5⟩,h1,hr⟩:=bs hr
    try dsimp only at hr
    apply TO.cal (wn T) rfl goFn65 (pulse_each_3571_spec h1) rfl rfl rfl
    repeat exact sd T
    refine wa_ T (g:=?_)
    obtain ⟨v6,h2,hr⟩:=bs hr
    apply TO.cal (wn T) rfl goFn100 (pulse_each_c1_82ab_spec h2) rfl rfl rfl
    repeat exact sd T
    refine wa_ T (g:=?_)
    rcases ifs hr with ⟨h3,hr⟩|⟨h3,hr⟩
    · have T:=an h3 T
      refine wa_ T (g:=?_)
      cases hr
      refine ⟨.inr rfl,_,(ry T),?_⟩
      exact wk_ T [none] rfl (.virt .nil)
    · have T:=an h3 T
      refine wC T (g:=?_)
      apply TX.vt (α:=(Nat × Nat)) e_c 5 1 rfl
      repeat exact sd T
      with_reducible apply TX.here
      refine wa_ T (g:=?_)
      obtain ⟨v16,h10,hr⟩:=bs hr
      refine TX.loopE (step:=pulse_recorded_l1 v1) (x:=(([] : List (Nat × Nat)),0)) h10 (fun (v7,v8)=>⟨.junk :: .junk :: .junk :: .junk :: .junk :: .lsl 0 0 v7.length :: .junk :: .junk :: .junk :: .junk :: .junk :: .junk :: .junk :: .junk :: .junk :: .junk :: .list 2 (v1.map e_ii) :: .v (.int .i64 (v1.length : Int)) :: .v (.int .i64 v8) :: .junk :: .junk :: .junk :: .junk :: .junk :: .junk :: .junk :: .junk :: .junk :: .junk :: .junk :: .junk :: .junk :: .junk :: .junk :: [],[.rows 1 (v7.map e_c)]⟩) (fun v12=>(.exit 0,⟨.junk :: .junk :: .junk :: .junk :: .junk :: .lsl 0 0 v12.length :: .junk :: .junk :: .junk :: .junk :: .junk :: .junk :: .junk :: .junk :: .junk :: .junk :: .junk :: .junk :: .junk :: .junk :: .junk :: .junk :: .junk :: .junk :: .junk :: .junk :: .junk :: .junk :: .junk :: .junk :: .junk :: .junk :: .junk :: .junk :: [],[.rows 1 (v12.map e_c)]⟩)) ?_ ?_ ?_ ?_
      · rintro ⟨v7,v8⟩ v0 hr
        dsimp only [pulse_recorded_l1] at hr
        try dsimp only
        refine wa_ T (g:=?_)
        rcases ifs hr with ⟨h7,hr⟩|⟨h7,hr⟩
        · have T:=an h7 T
          refine wa_ T (g:=?_)
          obtain ⟨⟨v13,v14⟩,h8,hr⟩:=bs hr
          try dsimp only at hr
          have h8m:=tidx_map (f:=e_ii) h8
          have h8l:=getI_lt h8
          try simp only [List.length_set] at h8l
          have h8a:=getI_at h8
          have T:=an h8m T
          have T:=an h8l T
          have T:=an h8a T
          refine wA T (g:=?_)
          apply TO.pop1 (wn T) (cvt_int_float un3 un51 rfl)
          repeat exact sd T
          refine wA T (g:=?_)
          apply TO.pop1 (wn T) (cvt_int_float un3 un51 rfl)
          repeat exact sd T
          refine wa_ T (g:=?_)
          apply TO.pop1 (wn T) (pop_complex rfl rfl)
          repeat exact sd T
          refine wa_ T (g:=?_)
          apply TO.bm e_c ([((FloatKind.f32.nearest v13),(FloatKind.f32.nearest v14))] : List (Nat × Nat)) (wn T) rfl (by simp only [zz,y22,e_c,e_ii,Nat.reduceAdd,Nat.reduceMul,Nat.reduceLeDiff,Nat.reduceEqDiff,tslice,tparts,h3,h7,h8m,h8l,h8a];exact rfl) rfl
          repeat exact sd T
          refine wa_ T (g:=?_)
          obtain ⟨v15,h9,hr⟩:=bs hr
          apply TO.ap (f:=e_c) (xs:=v7) (ys:=([((FloatKind.f32.nearest v13),(FloatKind.f32.nearest v14))] : List (Nat × Nat))) (wn T) rfl rfl (by first|rfl|simp only [List.length_set]) rfl rfl so31 ni31 zc49 rfl (by rw [by49];exact h9) (fun _=>⟨rfl,rfl,rfl⟩)
          repeat exact sd T
          refine wa_ T (g:=?_)
          cases hr
          refine ⟨rfl,?_⟩
          exact wk_ T [some 0] rfl (.rows .nil rfl rfl)
        · have T:=an h7 T
          refine wa_ T (g:=?_)
          cases hr
          refine ⟨rfl,?_⟩
          exact wk_ T [some 0] rfl (.rows .nil rfl rfl)
      · intro e h;cases h
      · try dsimp only
        refine wa_ T (g:=?_)
        cases hr
        refine ⟨.inr rfl,_,(ry T),?_⟩
        exact wk_ T [some 0] rfl (.rows .nil rfl rfl)
      · try dsimp only
        exact wk_ T [some 0] rfl (.rows .nil rfl rfl)
  rfl

end Go.Rex

namespace Go.Rex
open Go.Proofs
open Go Go.Rex Go.RowKit
set_option maxRecDepth 100000
set_option maxHeartbeats 200000
def y23:=an @cs80 <| an @so128 <| an @so31 <| @zc80
theorem pulse_Swept_spec {v1 : (List (Nat × Nat))} {v2 : (List (Nat × Nat))} {v3 : (List (Nat × Nat))} {v4 : Int} (hr : pulse_Swept v1 v2 = some (v3,v4)) : Spec (lim Try.prog) 16 [.list 1 (v1.map e_c),.list 1 (v2.map e_c)] ⟨[.tuple [.lsl 0 0 v3.length,.v (.int .i64 v4)]],[.rows 1 (v3.map e_c)]⟩:=by
  unfold pulse_Swept at hr
  have T:=an y23 <| @e_c.eq_1
  apply Spec.fn Try.func16 rfl
  focus (simp [Try.f16]<;>exact rfl)
  focus
    refine wa_ T (g:=?_)
    obtain ⟨v5,h1,hr⟩:=bs hr
    apply TO.cal (wn T) rfl goFn34 (pulse_listed_spec h1) rfl rfl rfl
    repeat exact sd T
    refine wa_ T (g:=?_)
    obtain ⟨v6,h2,hr⟩:=bs hr
    apply TO.cal (wn T) rfl goFn34 (pulse_listed_spec h2) rfl rfl rfl
    repeat exact sd T
    refine wc_ T (g:=?_)
    obtain ⟨⟨v7,v8⟩,h3,hr⟩:=bs hr
    try dsimp only at hr
    apply TO.cal (wn T) rfl goFn55 (pulse_refuse_spec h3) rfl rfl rfl
    repeat exact sd T
    refine we_ T (g:=?_)
    obtain ⟨v9,h4,hr⟩:=bs hr
    apply TO.cal (wn T) rfl goFn33 (pulse_firstError_a59d_spec h4) rfl rfl rfl
    repeat exact sd T
    refine wa_ T (g:=?_)
    rcases ifs hr with ⟨h5,hr⟩|⟨h5,hr⟩
    · have T:=an h5 T
      refine wa_ T (g:=?_)
      cases hr
      refine ⟨.inr rfl,_,(ry T),?_⟩
      exact wk_ T [none] rfl (.virt .nil)
    · have T:=an h5 T
      refine wa_ T (g:=?_)
      obtain ⟨v10,h6,hr⟩:=bs hr
      apply TO.cal (wn T) rfl goFn38 (pulse_numbersOf_spec h6) rfl rfl rfl
      repeat exact sd T
      refine wa_ T (g:=?_)
      obtain ⟨v11,h7,hr⟩:=bs hr
      apply TO.cal (wn T) rfl goFn38 (pulse_numbersOf_spec h7) rfl rfl rfl
      repeat exact sd T
      refine wa_ T (g:=?_)
      obtain ⟨v12,h8,hr⟩:=bs hr
      apply TO.lok (wn T) rfl goFn56 (pulse_swept_spec h8) (vw T) rfl rfl (by simp [clTB,cl,e_ff,e_c,e_ii,e_i])
      repeat exact sd T
      refine wa_ T (g:=?_)
      obtain ⟨⟨v13,v14⟩,h9,hr⟩:=bs hr
      try dsimp only at hr
      apply TO.lok (wn T) rfl goFn36 (pulse_recorded_spec h9) (vw T) rfl rfl (by simp [clTB,cl,e_ff,e_c,e_ii,e_i])
      repeat exact sd T
      refine wa_ T (g:=?_)
      cases hr
      refine ⟨.inr rfl,_,(ry T),?_⟩
      exact wk_ T [some 3] rfl (.rows .nil rfl rfl)
  rfl

end Go.Rex

namespace Go.Rex
open Go.Proofs
open Go Go.Rex Go.RowKit
set_option maxRecDepth 100000
set_option maxHeartbeats 200000
theorem pulse_turning_spec {v1 : (List (Nat × Nat))} {v2 : (List (Nat × Nat))} (hr : pulse_turning v1 = some (v2)) : Spec (lim Try.prog) 57 [.list 1 (v1.map e_c)] ⟨[.func 99 [] [.fptr true [.list 1 (v2.map e_c)] 0]],[]⟩:=by
  unfold pulse_turning at hr
  have T:=@e_c.eq_1
  apply Spec.fn Try.func57 rfl
  focus (simp [Try.f57]<;>exact rfl)
  focus
    refine wb_ T (g:=?_)
    cases hr
    refine ⟨.inr rfl,_,(ry T),?_⟩
    exact wr [] rfl .nil
  rfl

end Go.Rex

namespace Go.Rex
open Go.Proofs
open Go Go.Rex Go.RowKit
set_option maxRecDepth 100000
set_option maxHeartbeats 200000
def y24:=an @ag109 <| an @ag3 <| an @cs109 <| an @fd109_0 <| an @fd109_1 <| an @ok109 <| an @st109 <| @zc109
theorem pulse_number_conjugate_spec {v1 : Int} {v2 : Int} {v3 : Int} {v4 : Int} (hr : pulse_number_conjugate v1 v2 = some (v3,v4)) : Spec (lim Try.prog) 58 [.agg [.v (.int .i64 v1),.v (.int .i64 v2)]] ⟨[.agg [.v (.int .i64 v3),.v (.int .i64 v4)]],[]⟩:=by
  unfold pulse_number_conjugate at hr
  have T:=y24
  apply Spec.fn Try.func58 rfl
  focus (simp [Try.f58]<;>exact rfl)
  focus
    refine wB T (g:=?_)
    apply TO.pop1 (wn T) (pop_neg rfl)
    repeat exact sd T
    refine wa_ T (g:=?_)
    cases hr
    refine ⟨.inr rfl,_,(ry T),?_⟩
    exact wr [] rfl .nil
  rfl

end Go.Rex

namespace Go.Rex
open Go.Proofs
open Go Go.Rex Go.RowKit
set_option maxRecDepth 100000
set_option maxHeartbeats 200000
def y25:=an @ag109 <| an @ag31 <| an @ag49 <| an @cs109 <| an @cs49 <| an @eqg109 <| an @eqs109 <| an @ok109 <| an @ok49 <| an @so31 <| an @st109 <| @zc109
theorem pulse_turning_c1_f1d2_spec {v1 : (List (Nat × Nat))} {v2 : Int} (hr : pulse_turning_c1_f1d2 v1 = some (v2)) : Spec (lim Try.prog) 99 [.fptr true [.list 1 (v1.map e_c)] 0] ⟨[.v (.int .i64 v2)],[]⟩:=by
  unfold pulse_turning_c1_f1d2 at hr
  have T:=an y25 <| @e_c.eq_1
  apply Spec.fn Try.func99 rfl
  focus (simp [Try.f99]<;>exact rfl)
  focus
    refine wA T (g:=?_)
    obtain ⟨⟨v3,v4⟩,h1,hr⟩:=bs hr
    try dsimp only at hr
    have T:=an (gx e_c h1) T
    refine wA T (g:=?_)
    obtain ⟨⟨v5,v6⟩,h2,hr⟩:=bs hr
    try dsimp only at hr
    apply TO.cal (wn T) rfl goFn67 (pulse_numberOf_spec h2) rfl rfl rfl
    repeat exact sd T
    refine wA T (g:=?_)
    obtain ⟨⟨v7,v8⟩,h3,hr⟩:=bs hr
    try dsimp only at hr
    apply TD.cal (wn T) rfl goFn58 (pulse_number_conjugate_spec h3) rfl rfl rfl
    repeat exact sd T
    refine wa_ T (g:=?_)
    obtain ⟨⟨v9,v10⟩,h4,hr⟩:=bs hr
    try dsimp only at hr
    apply TD.cal (wn T) rfl goFn60 (pulse_number_times_spec h4) rfl rfl rfl
    repeat exact sd T
    refine wa_ T (g:=?_)
    apply TD.pop1 (wn T) (pop_eqs2 (X:=⟨[.int .i64 (v9),.int .i64 (v10)]⟩) (Y:=⟨[.int .i64 (1),.int .i64 (0)]⟩) rfl rfl rfl rfl rfl rfl rfl eqg109 eqs109 rfl)
    repeat exact sd T
    refine wa_ T (g:=?_)
    obtain ⟨⟨v11,v12⟩,h5,hr⟩:=bs hr
    try dsimp only at hr
    apply TD.cal (wn T) rfl goFn55 (pulse_refuse_spec h5) rfl rfl rfl
    repeat exact sd T
    refine wa_ T (g:=?_)
    obtain ⟨v13,h6,hr⟩:=bs hr
    apply TD.cal (wn T) rfl goFn98 (pulse_refuse_c1_11f9_spec h6) rfl rfl rfl
    repeat exact sd T
    refine wa_ T (g:=?_)
    cases hr
    refine ⟨.inr rfl,_,(ry T),?_⟩
    exact wr [] rfl .nil
  rfl

end Go.Rex

namespace Go.Rex
open Go.Proofs
open Go Go.Rex Go.RowKit
set_option maxRecDepth 100000
set_option maxHeartbeats 200000
def y26:=an @ag80 <| an @cs80 <| an @ok80 <| an @so128 <| an @wi64_0a1 <| an @wi64_1a1 <| @wi64_2a1
theorem pulse_firstError_123b_spec {v1 : (List (Nat × Nat))} {v2 : (List (Nat × Nat))} {v3 : (List (Nat × Nat))} {v4 : Int} (hr : pulse_firstError_123b v1 v2 v3 = some (v4)) : Spec (lim Try.prog) 33 [.list 1 [[.func 82 [] [.fptr true [.list 1 (v1.map e_c)] 0]],[.func 82 [] [.fptr true [.list 1 (v2.map e_c)] 0]],[.func 99 [] [.fptr true [.list 1 (v3.map e_c)] 0]]]] ⟨[.v (.int .i64 v4)],[]⟩:=by
  unfold pulse_firstError_123b at hr
  have T:=an y26 <| @e_c.eq_1
  apply Spec.fn Try.func33 rfl
  focus (simp [Try.f33]<;>exact rfl)
  focus
    refine wc_ T (g:=?_)
    refine TX.unroll ?_
    repeat (first|(with_reducible first|refine mv ?_|refine TO.nil ?_)|((with_reducible first|apply TO.bin|apply TO.ia|apply TO.ld|apply TO.asg|apply TO.mv);(repeat (focus (show _ = _;first|exact k1 rfl|exact k2 rfl|(simp only [zz,y26,e_c,Nat.reduceAdd,Nat.reduceMul,Nat.reduceLeDiff,Nat.reduceEqDiff,tindexAddr,z5,Int.reduceToNat,Int.reduceLE,Int.reduceLT,Int.cast_ofNat_Int,tload,rowOf,partT,List.getElem?_map]<;>exact rfl)|exact rfl)));(with_reducible apply TO.here))|((with_reducible apply TX.region);(focus (simp only [zl]<;>exact rfl));(focus rfl);(try dsimp only))|((with_reducible apply TX.cond_true);(focus rfl);(focus (first|rfl|(simp only [z1,zn];done))))|((with_reducible apply TX.cond_false);(focus rfl);(focus (first|rfl|(simp only [z1,zn];done))))|fail)
    obtain ⟨v5,h1,hr⟩:=bs hr
    apply TO.cal (wn T) rfl goFn82 (pulse_listed_c1_f1d2_spec h1) rfl rfl rfl
    repeat exact sd T
    refine wa_ T (g:=?_)
    rcases ifs hr with ⟨h2,hr⟩|⟨h2,hr⟩
    · have T:=an h2 T
      refine wa_ T (g:=?_)
      cases hr
      refine ⟨.inr rfl,_,(ry T),?_⟩
      exact wk_ T [] rfl .nil
    · have T:=an h2 T
      refine wa_ T (g:=?_)
      refine TX.unroll ?_
      repeat (first|(with_reducible first|refine mv ?_|refine TO.nil ?_)|((with_reducible first|apply TO.bin|apply TO.ia|apply TO.ld|apply TO.asg|apply TO.mv);(repeat (focus (show _ = _;first|exact k1 rfl|exact k2 rfl|(simp only [zz,y26,e_c,Nat.reduceAdd,Nat.reduceMul,Nat.reduceLeDiff,Nat.reduceEqDiff,tindexAddr,z5,Int.reduceToNat,Int.reduceLE,Int.reduceLT,Int.cast_ofNat_Int,tload,rowOf,partT,List.getElem?_map,h2]<;>exact rfl)|exact rfl)));(with_reducible apply TO.here))|((with_reducible apply TX.region);(focus (simp only [zl]<;>exact rfl));(focus rfl);(try dsimp only))|((with_reducible apply TX.cond_true);(focus rfl);(focus (first|rfl|(simp only [z1,zn,h2];done))))|((with_reducible apply TX.cond_false);(focus rfl);(focus (first|rfl|(simp only [z1,zn,h2];done))))|fail)
      obtain ⟨v6,h3,hr⟩:=bs hr
      apply TO.cal (wn T) rfl goFn82 (pulse_listed_c1_f1d2_spec h3) rfl rfl rfl
      repeat exact sd T
      refine wa_ T (g:=?_)
      rcases ifs hr with ⟨h4,hr⟩|⟨h4,hr⟩
      · have T:=an h4 T
        refine wa_ T (g:=?_)
        cases hr
        refine ⟨.inr rfl,_,(ry T),?_⟩
        exact wk_ T [] rfl .nil
      · have T:=an h4 T
        refine wa_ T (g:=?_)
        refine TX.unroll ?_
        repeat (first|(with_reducible first|refine mv ?_|refine TO.nil ?_)|((with_reducible first|apply TO.bin|apply TO.ia|apply TO.ld|apply TO.asg|apply TO.mv);(repeat (focus (show _ = _;first|exact k1 rfl|exact k2 rfl|(simp only [zz,y26,e_c,Nat.reduceAdd,Nat.reduceMul,Nat.reduceLeDiff,Nat.reduceEqDiff,tindexAddr,z5,Int.reduceToNat,Int.reduceLE,Int.reduceLT,Int.cast_ofNat_Int,tload,rowOf,partT,List.getElem?_map,h2,h4]<;>exact rfl)|exact rfl)));(with_reducible apply TO.here))|((with_reducible apply TX.region);(focus (simp only [zl]<;>exact rfl));(focus rfl);(try dsimp only))|((with_reducible apply TX.cond_true);(focus rfl);(focus (first|rfl|(simp only [z1,zn,h2,h4];done))))|((with_reducible apply TX.cond_false);(focus rfl);(focus (first|rfl|(simp only [z1,zn,h2,h4];done))))|fail)
        obtain ⟨v7,h5,hr⟩:=bs hr
        apply TO.cal (wn T) rfl goFn99 (pulse_turning_c1_f1d2_spec h5) rfl rfl rfl
        repeat exact sd T
        refine wa_ T (g:=?_)
        rcases ifs hr with ⟨h6,hr⟩|⟨h6,hr⟩
        · have T:=an h6 T
          refine wa_ T (g:=?_)
          cases hr
          refine ⟨.inr rfl,_,(ry T),?_⟩
          exact wk_ T [] rfl .nil
        · have T:=an h6 T
          refine wa_ T (g:=?_)
          refine TX.unroll ?_
          refine wa_ T (g:=?_)
          cases hr
          refine ⟨.inr rfl,_,(ry T),?_⟩
          exact wk_ T [] rfl .nil
  rfl

end Go.Rex

namespace Go.Rex
open Go.Proofs
open Go Go.Rex Go.RowKit
set_option maxRecDepth 100000
set_option maxHeartbeats 200000
def y27:=an @ag109 <| an @ag3 <| an @cs109 <| an @fd109_0 <| an @fd109_1 <| an @ok109 <| an @st109 <| @zc109
theorem pulse_number_less_spec {v1 : Int} {v2 : Int} {v3 : Int} {v4 : Int} {v5 : Int} {v6 : Int} (hr : pulse_number_less v1 v2 v3 v4 = some (v5,v6)) : Spec (lim Try.prog) 59 [.agg [.v (.int .i64 v1),.v (.int .i64 v2)],.agg [.v (.int .i64 v3),.v (.int .i64 v4)]] ⟨[.agg [.v (.int .i64 v5),.v (.int .i64 v6)]],[]⟩:=by
  unfold pulse_number_less at hr
  have T:=y27
  apply Spec.fn Try.func59 rfl
  focus (simp [Try.f59]<;>exact rfl)
  focus
    refine wB T (g:=?_)
    cases hr
    refine ⟨.inr rfl,_,(ry T),?_⟩
    exact wr [] rfl .nil
  rfl

end Go.Rex

namespace Go.Rex
open Go.Proofs
open Go Go.Rex Go.RowKit
set_option maxRecDepth 100000
set_option maxHeartbeats 1000000
def y28:=an @ag109 <| an @by109 <| an @cs109 <| an @cs80 <| an @ni84 <| an @ok109 <| an @so128 <| an @so84 <| an @zc109 <| an @zc80 <| @wi64_0a1
theorem pulse_Divided_spec {v1 : (List (Nat × Nat))} {v2 : (List (Nat × Nat))} {v3 : (List (Nat × Nat))} {v4 : Int} (hr : pulse_Divided v1 v2 = some (v3,v4)) : Spec (lim Try.prog) 17 [.list 1 (v1.map e_c),.list 1 (v2.map e_c)] ⟨[.tuple [.lsl 0 0 v3.length,.v (.int .i64 v4)]],[.rows 1 (v3.map e_c)]⟩:=by
  unfold pulse_Divided at hr
  have T:=an y28 <| an @e_c.eq_1 <| @e_ii.eq_1
  apply Spec.fn Try.func17 rfl
  focus (simp [Try.f17]<;>exact rfl)
  focus
    refine wa_ T (g:=?_)
    obtain ⟨v5,h1,hr⟩:=bs hr
    apply TO.cal (wn T) rfl goFn34 (pulse_listed_spec h1) rfl rfl rfl
    repeat exact sd T
    refine wa_ T (g:=?_)
    obtain ⟨v6,h2,hr⟩:=bs hr
    apply TO.cal (wn T) rfl goFn34 (pulse_listed_spec h2) rfl rfl rfl
    repeat exact sd T
    refine wa_ T (g:=?_)
    obtain ⟨v7,h3,hr⟩:=bs hr
    apply TO.cal (wn T) rfl goFn57 (pulse_turning_spec h3) rfl rfl rfl
    repeat exact sd T
    refine we_ T (g:=?_)
    obtain ⟨v8,h4,hr⟩:=bs hr
    apply TO.cal (wn T) rfl goFn33 (pulse_firstError_123b_spec h4) rfl rfl rfl
    repeat exact sd T
    refine wa_ T (g:=?_)
    rcases ifs hr with ⟨h5,hr⟩|⟨h5,hr⟩
    · have T:=an h5 T
      refine wa_ T (g:=?_)
      cases hr
      refine ⟨.inr rfl,_,(ry T),?_⟩
      exact wk_ T [none] rfl (.virt .nil)
    · have T:=an h5 T
      refine wa_ T (g:=?_)
      obtain ⟨v9,h6,hr⟩:=bs hr
      apply TO.cal (wn T) rfl goFn38 (pulse_numbersOf_spec h6) rfl rfl rfl
      repeat exact sd T
      refine wa_ T (g:=?_)
      obtain ⟨⟨v10,v11⟩,h7,hr⟩:=bs hr
      try dsimp only at hr
      have h7m:=tidx_map (f:=e_ii) h7
      have h7l:=getI_lt h7
      try simp only [List.length_set] at h7l
      have h7a:=getI_at h7
      have T:=an h7m T
      have T:=an h7l T
      have T:=an h7a T
      refine wA T (g:=?_)
      obtain ⟨⟨v12,v13⟩,h8,hr⟩:=bs hr
      try dsimp only at hr
      apply TO.cal (wn T) rfl goFn58 (pulse_number_conjugate_spec h8) rfl rfl rfl
      repeat exact sd T
      refine wa_ T (g:=?_)
      obtain ⟨v14,h9,hr⟩:=bs hr
      apply TO.cal (wn T) rfl goFn38 (pulse_numbersOf_spec h9) rfl rfl rfl
      repeat exact sd T
      refine wc_ T (g:=?_)
      apply TX.vt (α:=(Int × Int)) e_ii 9 2 rfl
      repeat exact sd T
      with_reducible apply TX.here
      refine wa_ T (g:=?_)
      obtain ⟨v74,h40,hr⟩:=bs hr
      refine TX.loopE (step:=pulse_Divided_l1 v9 v12 v13 v14) (x:=(([] : List (Int × Int)),0)) h40 (fun (v15,v16)=>⟨.junk :: .junk :: .junk :: .junk :: .junk :: .junk :: .junk :: .lsl 0 0 v9.length :: .lptr 1 0 0 :: .lsl 2 0 v15.length :: .junk :: .junk :: .junk :: .junk :: .junk :: .junk :: .junk :: .junk :: .junk :: .junk :: .junk :: .junk :: .junk :: .junk :: .junk :: .junk :: .junk :: .junk :: .junk :: .junk :: .junk :: .lsl 3 0 v14.length :: .v (.int .i64 (v14.length : Int)) :: .v (.int .i64 v16) :: .junk :: .junk :: .junk :: .junk :: .junk :: .junk :: .junk :: .junk :: .junk :: .junk :: .junk :: .junk :: .junk :: .junk :: .junk :: .junk :: .junk :: .junk :: .junk :: .junk :: .junk :: .junk :: .junk :: .junk :: .junk :: .junk :: .junk :: .junk :: .junk :: .junk :: .junk :: .junk :: .junk :: .junk :: .junk :: .junk :: .junk :: .junk :: .junk :: [],[.rows 2 (v9.map e_ii),.var [.v (.int .i64 v12),.v (.int .i64 v13)],.rows 2 (v15.map e_ii),.rows 2 (v14.map e_ii)]⟩) (fun v45=>(.exit 0,⟨.junk :: .junk :: .junk :: .junk :: .junk :: .junk :: .junk :: .junk :: .junk :: .lsl 0 0 v45.length :: .junk :: .junk :: .junk :: .junk :: .junk :: .junk :: .junk :: .junk :: .junk :: .junk :: .junk :: .junk :: .junk :: .junk :: .junk :: .junk :: .junk :: .junk :: .junk :: .junk :: .junk :: .junk :: .junk :: .junk :: .junk :: .junk :: .junk :: .junk :: .junk :: .junk :: .junk :: .junk :: .junk :: .junk :: .junk :: .junk :: .junk :: .junk :: .junk :: .junk :: .junk :: .junk :: .junk :: .junk :: .junk :: .junk :: .junk :: .junk :: .junk :: .junk :: .junk :: .junk :: .junk :: .junk :: .junk :: .junk :: .junk :: .junk :: .junk :: .junk :: .junk :: .junk :: .junk :: [],[.rows 2 (v45.map e_ii)]⟩)) ?_ ?_ ?_ ?_
      · rintro ⟨v15,v16⟩ v0 hr
        dsimp only [pulse_Divided_l1] at hr
        try dsimp only
        refine wa_ T (g:=?_)
        rcases ifs hr with ⟨h25,hr⟩|⟨h25,hr⟩
        · have T:=an h25 T
          refine wa_ T (g:=?_)
          obtain ⟨⟨v46,v47⟩,h26,hr⟩:=bs hr
          try dsimp only at hr
          have h26m:=tidx_map (f:=e_ii) h26
          have h26l:=getI_lt h26
          try simp only [List.length_set] at h26l
          have h26a:=getI_at h26
          have T:=an h26m T
          have T:=an h26l T
          have T:=an h26a T
          refine wC T (g:=?_)
          apply TO.pop1 (wn T) (pop_max rfl rfl)
          repeat exact sd T
          refine wa_ T (g:=?_)
          obtain ⟨⟨v69,v70⟩,h37,hr⟩:=bs hr
          try dsimp only at hr
          refine TX.loopE (step:=pulse_Divided_l2 v9 v15 v16) (x:=(v46,v47,(if (IntKind.i64.wrap ((IntKind.i64.wrap (v16 + 1)) - (v9.length : Int))) > 0 then (IntKind.i64.wrap ((IntKind.i64.wrap (v16 + 1)) - (v9.length : Int))) else 0))) h37 (fun (v48,v49,v50)=>⟨.junk :: .junk :: .junk :: .junk :: .junk :: .junk :: .junk :: .lsl 0 0 v9.length :: .lptr 1 0 0 :: .lsl 2 0 v15.length :: .v (.int .i64 v16) :: .lptr 3 0 0 :: .v (.int .i64 v50) :: .junk :: .junk :: .junk :: .junk :: .junk :: .junk :: .junk :: .junk :: .junk :: .junk :: .junk :: .junk :: .junk :: .junk :: .junk :: .junk :: .junk :: .junk :: .lsl 4 0 v14.length :: .v (.int .i64 (v14.length : Int)) :: .v (.int .i64 v16) :: .junk :: .junk :: .junk :: .junk :: .junk :: .junk :: .junk :: .junk :: .junk :: .junk :: .junk :: .junk :: .junk :: .junk :: .junk :: .junk :: .junk :: .junk :: .junk :: .junk :: .junk :: .junk :: .junk :: .junk :: .junk :: .junk :: .junk :: .junk :: .junk :: .junk :: .junk :: .junk :: .junk :: .junk :: .junk :: .junk :: .junk :: .junk :: .junk :: [],[.rows 2 (v9.map e_ii),.var [.v (.int .i64 v12),.v (.int .i64 v13)],.rows 2 (v15.map e_ii),.var [.v (.int .i64 v48),.v (.int .i64 v49)],.rows 2 (v14.map e_ii)]⟩) (fun (v59,v60)=>(.exit 2,⟨.junk :: .junk :: .junk :: .junk :: .junk :: .junk :: .junk :: .lsl 0 0 v9.length :: .lptr 1 0 0 :: .lsl 2 0 v15.length :: .junk :: .lptr 3 0 0 :: .junk :: .junk :: .junk :: .junk :: .junk :: .junk :: .junk :: .junk :: .junk :: .junk :: .junk :: .junk :: .junk :: .junk :: .junk :: .junk :: .junk :: .junk :: .junk :: .lsl 4 0 v14.length :: .v (.int .i64 (v14.length : Int)) :: .v (.int .i64 v16) :: .junk :: .junk :: .junk :: .junk :: .junk :: .junk :: .junk :: .junk :: .junk :: .junk :: .junk :: .junk :: .junk :: .junk :: .junk :: .junk :: .junk :: .junk :: .junk :: .junk :: .junk :: .junk :: .junk :: .junk :: .junk :: .junk :: .junk :: .junk :: .junk :: .junk :: .junk :: .junk :: .junk :: .junk :: .junk :: .junk :: .junk :: .junk :: .junk :: [],[.rows 2 (v9.map e_ii),.var [.v (.int .i64 v12),.v (.int .i64 v13)],.rows 2 (v15.map e_ii),.var [.v (.int .i64 v59),.v (.int .i64 v60)],.rows 2 (v14.map e_ii)]⟩)) ?_ ?_ ?_ ?_
          · rintro ⟨v48,v49,v50⟩ v0 hr
            dsimp only [pulse_Divided_l2] at hr
            try dsimp only
            refine wa_ T (g:=?_)
            rcases ifs hr with ⟨h32,hr⟩|⟨h32,hr⟩
            · have T:=an h32 T
              refine wA T (g:=?_)
              obtain ⟨⟨v61,v62⟩,h33,hr⟩:=bs hr
              try dsimp only at hr
              have T:=an (gx e_ii h33) T
              refine wA T (g:=?_)
              obtain ⟨⟨v63,v64⟩,h34,hr⟩:=bs hr
              try dsimp only at hr
              have T:=an (gx e_ii h34) T
              refine wA T (g:=?_)
              obtain ⟨⟨v65,v66⟩,h35,hr⟩:=bs hr
              try dsimp only at hr
              apply TD.cal (wn T) rfl goFn60 (pulse_number_times_spec h35) rfl rfl rfl
              repeat exact sd T
              refine wa_ T (g:=?_)
              obtain ⟨⟨v67,v68⟩,h36,hr⟩:=bs hr
              try dsimp only at hr
              apply TD.cal (wn T) rfl goFn59 (pulse_number_less_spec h36) rfl rfl rfl
              repeat exact sd T
              refine wa_ T (g:=?_)
              cases hr
              refine ⟨rfl,?_⟩
              exact wk_ T [some 0,some 1,some 2,some 3,some 4] rfl (.rows (rv (.rows (rv (.rows .nil rfl rfl) rfl) rfl rfl) rfl) rfl rfl)
            · have T:=an h32 T
              refine wa_ T (g:=?_)
              cases hr
              refine ⟨rfl,?_⟩
              exact wk_ T [some 0,some 1,some 2,some 3,some 4] rfl (.rows (rv (.rows (rv (.rows .nil rfl rfl) rfl) rfl rfl) rfl) rfl rfl)
          · intro e h;cases h
          · try dsimp only
            refine wA T (g:=?_)
            obtain ⟨⟨v71,v72⟩,h38,hr⟩:=bs hr
            try dsimp only at hr
            apply TO.cal (wn T) rfl goFn60 (pulse_number_times_spec h38) rfl rfl rfl
            repeat exact sd T
            refine wa_ T (g:=?_)
            apply TO.bm e_ii ([(v71,v72)] : List (Int × Int)) (wn T) rfl (by simp only [zz,y28,e_c,e_ii,Nat.reduceAdd,Nat.reduceMul,Nat.reduceLeDiff,Nat.reduceEqDiff,tslice,tparts,h5,h7m,h7l,h7a,h25,h26m,h26l,h26a];exact rfl) rfl
            repeat exact sd T
            refine wa_ T (g:=?_)
            obtain ⟨v73,h39,hr⟩:=bs hr
            apply TO.ap (f:=e_ii) (xs:=v15) (ys:=([(v71,v72)] : List (Int × Int))) (wn T) rfl rfl (by first|rfl|simp only [List.length_set]) rfl rfl so84 ni84 zc109 rfl (by rw [by109];exact h39) (fun _=>⟨rfl,rfl,rfl⟩)
            repeat exact sd T
            refine wa_ T (g:=?_)
            cases hr
            refine ⟨rfl,?_⟩
            exact wk_ T [some 0,some 1,some 2,some 4] rfl (.rows (rv (.rows (.rows .nil rfl rfl) rfl rfl) rfl) rfl rfl)
          · try dsimp only
            exact wk_ T [some 0,some 1,some 2,some 4,some 3] rfl (.rows (rv (.rows (rv (.rows .nil rfl rfl) rfl) rfl rfl) rfl) rfl rfl)
        · have T:=an h25 T
          refine wa_ T (g:=?_)
          cases hr
          refine ⟨rfl,?_⟩
          exact wk_ T [some 2] rfl (.rows .nil rfl rfl)
      · intro e h;cases h
      · try dsimp only
        refine wa_ T (g:=?_)
        obtain ⟨⟨v75,v76⟩,h41,hr⟩:=bs hr
        try dsimp only at hr
        apply TO.lok (wn T) rfl goFn36 (pulse_recorded_spec h41) (vw T) rfl rfl (by simp [clTB,cl,e_ff,e_c,e_ii,e_i])
        repeat exact sd T
        refine wa_ T (g:=?_)
        cases hr
        refine ⟨.inr rfl,_,(ry T),?_⟩
        exact wk_ T [some 1] rfl (.rows .nil rfl rfl)
      · try dsimp only
        exact wk_ T [some 0,some 1,some 3,some 2] rfl (.rows (rv (.rows (.rows .nil rfl rfl) rfl rfl) rfl) rfl rfl)
  rfl

end Go.Rex

namespace Go.Rex
open Go.Proofs
open Go Go.Rex Go.RowKit
set_option maxRecDepth 100000
set_option maxHeartbeats 200000
def y29:=@ex97
theorem base_SameBits_spec {v1 : Nat} {v2 : Nat} {v3 : Nat} {v4 : Nat} {v5 : Bool} (hr : base_SameBits v1 v2 v3 v4 = some (v5)) : Spec (lim Try.prog) 54 [.v (.complex .f64 v1 v2),.v (.complex .f64 v3 v4)] ⟨[.v (.bool v5)],[]⟩:=by
  unfold base_SameBits at hr
  have T:=y29
  apply Spec.fn Try.func54 rfl
  focus (simp [Try.f54]<;>exact rfl)
  focus
    refine wa_ T (g:=?_)
    apply TO.pop1 (wn T) (pop_real rfl)
    repeat exact sd T
    refine wa_ T (g:=?_)
    obtain ⟨v6,h1,hr⟩:=bs hr
    apply TO.fb (wn T) rfl ex97 (by simp only [z1,z3,zl]<;>rfl) h1 rfl
    repeat exact sd T
    refine wa_ T (g:=?_)
    apply TO.pop1 (wn T) (pop_real rfl)
    repeat exact sd T
    refine wa_ T (g:=?_)
    obtain ⟨v7,h2,hr⟩:=bs hr
    apply TO.fb (wn T) rfl ex97 (by simp only [z1,z3,zl]<;>rfl) h2 rfl
    repeat exact sd T
    refine wa_ T (g:=?_)
    rcases ifs hr with ⟨h3,hr⟩|⟨h3,hr⟩
    · have T:=an h3 T
      refine wa_ T (g:=?_)
      apply TO.pop1 (wn T) (pop_imag rfl)
      repeat exact sd T
      refine wa_ T (g:=?_)
      obtain ⟨v8,h4,hr⟩:=bs hr
      apply TO.fb (wn T) rfl ex97 (by simp only [z1,z3,zl]<;>rfl) h4 rfl
      repeat exact sd T
      refine wa_ T (g:=?_)
      apply TO.pop1 (wn T) (pop_imag rfl)
      repeat exact sd T
      refine wa_ T (g:=?_)
      obtain ⟨v9,h5,hr⟩:=bs hr
      apply TO.fb (wn T) rfl ex97 (by simp only [z1,z3,zl]<;>rfl) h5 rfl
      repeat exact sd T
      refine wa_ T (g:=?_)
      cases hr
      refine ⟨.inr rfl,_,(ry T),?_⟩
      exact wk_ T [] rfl .nil
    · have T:=an h3 T
      refine wa_ T (g:=?_)
      cases hr
      refine ⟨.inr rfl,_,(ry T),?_⟩
      exact wk_ T [] rfl .nil
  rfl

end Go.Rex

namespace Go.Rex
open Go.Proofs
open Go Go.Rex Go.RowKit
set_option maxRecDepth 100000
set_option maxHeartbeats 200000
def y30:=an @ag49 <| an @cs49 <| an @ok49 <| an @so31 <| an @un105 <| an @un49 <| @wi64_0a1
theorem base_SameSamples_spec {v1 : (List (Nat × Nat))} {v2 : (List (Nat × Nat))} {v3 : Bool} (hr : base_SameSamples v1 v2 = some (v3)) : Spec (lim Try.prog) 15 [.list 1 (v1.map e_c),.list 1 (v2.map e_c)] ⟨[.v (.bool v3)],[]⟩:=by
  unfold base_SameSamples at hr
  have T:=an y30 <| @e_c.eq_1
  apply Spec.fn Try.func15 rfl
  focus (simp [Try.f15]<;>exact rfl)
  focus
    refine wc_ T (g:=?_)
    rcases ifs hr with ⟨h1,hr⟩|⟨h1,hr⟩
    · have T:=an h1 T
      refine wa_ T (g:=?_)
      cases hr
      refine ⟨.inr rfl,_,(ry T),?_⟩
      exact wk_ T [] rfl .nil
    · have T:=an h1 T
      refine wa_ T (g:=?_)
      obtain ⟨v23,h20,hr⟩:=bs hr
      refine TX.loopE (step:=base_SameSamples_l1 v1 v2) (x:=0) h20 (fun v4=>⟨.list 1 (v1.map e_c) :: .list 1 (v2.map e_c) :: .junk :: .junk :: .junk :: .v (.int .i64 v4) :: .junk :: .junk :: .junk :: .junk :: .junk :: .junk :: .junk :: .junk :: .junk :: .junk :: .junk :: .junk :: .junk :: .junk :: .junk :: .junk :: .junk :: .junk :: .junk :: .junk :: .junk :: .junk :: .junk :: [],[]⟩) (fun e=>match e with|(.inl _)=>(.ret,⟨.junk :: .junk :: .junk :: .junk :: .v (.bool false) :: .junk :: .junk :: .junk :: .junk :: .junk :: .junk :: .junk :: .junk :: .junk :: .junk :: .junk :: .junk :: .junk :: .junk :: .junk :: .junk :: .junk :: .junk :: .junk :: .junk :: .junk :: .junk :: .junk :: .junk :: [],[]⟩)|(.inr _)=>(.exit 0,⟨.junk :: .junk :: .junk :: .junk :: .junk :: .junk :: .junk :: .junk :: .junk :: .junk :: .junk :: .junk :: .junk :: .junk :: .junk :: .junk :: .junk :: .junk :: .junk :: .junk :: .junk :: .junk :: .junk :: .junk :: .junk :: .junk :: .junk :: .junk :: .junk :: [],[]⟩)) ?_ ?_ ?_ ?_
      · rintro v4 v0 hr
        dsimp only [base_SameSamples_l1] at hr
        try dsimp only
        refine wc_ T (g:=?_)
        rcases ifs hr with ⟨h11,hr⟩|⟨h11,hr⟩
        · have T:=an h11 T
          refine wa_ T (g:=?_)
          obtain ⟨⟨v14,v15⟩,h12,hr⟩:=bs hr
          try dsimp only at hr
          have T:=an (gx e_c h12) T
          refine wA T (g:=?_)
          obtain ⟨v16,h13,hr⟩:=bs hr
          obtain ⟨v17,h14,hr⟩:=bs hr
          apply TD.pop1 (wn T) (cvt_complex un49 un105 rfl h13 h14)
          repeat exact sd T
          refine wa_ T (g:=?_)
          obtain ⟨⟨v18,v19⟩,h15,hr⟩:=bs hr
          try dsimp only at hr
          have T:=an (gx e_c h15) T
          refine wA T (g:=?_)
          obtain ⟨v20,h16,hr⟩:=bs hr
          obtain ⟨v21,h17,hr⟩:=bs hr
          apply TD.pop1 (wn T) (cvt_complex un49 un105 rfl h16 h17)
          repeat exact sd T
          refine wa_ T (g:=?_)
          obtain ⟨v22,h18,hr⟩:=bs hr
          apply TD.cal (wn T) rfl goFn54 (base_SameBits_spec h18) rfl rfl rfl
          repeat exact sd T
          refine wa_ T (g:=?_)
          apply TD.pop1 (wn T) (pop_not rfl)
          repeat exact sd T
          refine wa_ T (g:=?_)
          rcases ifs hr with ⟨h19,hr⟩|⟨h19,hr⟩
          · have T:=an h19 T
            refine wa_ T (g:=?_)
            cases hr
            refine ⟨rfl,?_⟩
            exact wk_ T [] rfl .nil
          · have T:=an h19 T
            refine wa_ T (g:=?_)
            cases hr
            refine ⟨rfl,?_⟩
            exact wk_ T [] rfl .nil
        · have T:=an h11 T
          refine wa_ T (g:=?_)
          cases hr
          refine ⟨rfl,?_⟩
          exact wk_ T [] rfl .nil
      · intro e h;rcases e with _|e<;>cases h
      · try dsimp only
        rcases v23 with _|_
        · try dsimp only at hr
          try dsimp only
          refine wa_ T (g:=?_)
          cases hr
          refine ⟨.inr rfl,_,(ry T),?_⟩
          exact wk_ T [] rfl .nil
        · try dsimp only at hr
          try dsimp only
          refine wa_ T (g:=?_)
          cases hr
          refine ⟨.inr rfl,_,(ry T),?_⟩
          exact wk_ T [] rfl .nil
      · try dsimp only
        exact wk_ T [] rfl .nil
  rfl

end Go.Rex

namespace Go.Rex
open Go.Proofs
open Go Go.Rex Go.RowKit
set_option maxRecDepth 100000
theorem follows : Try.prog.follows .mixedOrders = true:=by decide +kernel
theorem awake_true : AwT Try.prog 7:=awT_of_ecall follows (k:=1000) (d:=50) (by decide +kernel)

end Go.Rex
