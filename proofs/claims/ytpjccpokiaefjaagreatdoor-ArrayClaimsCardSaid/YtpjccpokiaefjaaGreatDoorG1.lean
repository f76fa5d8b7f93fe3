/- Proofs that the program's functions do what these plain functions say. -/
import Derived.Test.YtpjccpokiaefjaaGreatDoorGB
import Derived.Test.YtpjccpokiaefjaaGreatDoorS
set_option linter.unusedSimpArgs false
set_option linter.unusedVariables false
set_option linter.defProp false
namespace Go.Rex
open Go.Proofs
open Go Go.Rex Go.RowKit
set_option maxRecDepth 100000
set_option maxHeartbeats 200000
def y1:=an @ag77 <| an @ag87 <| an @cs87 <| an @fd86_0 <| an @ok87 <| an @so77 <| an @so87 <| @wi64_0a1
theorem law07_Small_spec {v1 : (List (List Int))} {v2 : Int} {v3 : Bool} (hr : law07_Small v1 v2 = some (v3)) : Spec (lim Tryz.prog) 47 [.agg [.list 1 (v1.map e_Li_),.v (.int .i64 v2)]] ⟨[.v (.bool v3)],[]⟩:=by
  unfold law07_Small at hr
  have T:=an y1 <| @e_Li_.eq_1
  apply Spec.fn Tryz.func47 rfl
  focus (simp [Tryz.f47]<;>exact rfl)
  focus
    refine wD T (g:=?_)
    rcases ifs hr with ⟨h1,hr⟩|⟨h1,hr⟩
    · have T:=an h1 T
      refine wa_ T (g:=?_)
      cases hr
      refine ⟨.inr rfl,_,(ry T),?_⟩
      exact wk_ T [] rfl .nil
    · have T:=an h1 T
      refine wa_ T (g:=?_)
      obtain ⟨v7,h8,hr⟩:=bs hr
      refine TX.loopE (step:=law07_Small_l1 v1) (x:=0) h8 (fun v4=>⟨.junk :: .fptr true [.list 1 (v1.map e_Li_),.v (.int .i64 v2)] 0 :: .junk :: .v (.int .i64 v4) :: .junk :: .junk :: .junk :: .junk :: .junk :: .junk :: .junk :: .junk :: .junk :: .junk :: .junk :: .junk :: .junk :: .junk :: .junk :: .junk :: .junk :: .junk :: [],[]⟩) (fun e=>match e with|(.inl _)=>(.ret,⟨.junk :: .junk :: .v (.bool false) :: .junk :: .junk :: .junk :: .junk :: .junk :: .junk :: .junk :: .junk :: .junk :: .junk :: .junk :: .junk :: .junk :: .junk :: .junk :: .junk :: .junk :: .junk :: .junk :: [],[]⟩)|(.inr _)=>(.exit 0,⟨.junk :: .junk :: .junk :: .junk :: .junk :: .junk :: .junk :: .junk :: .junk :: .junk :: .junk :: .junk :: .junk :: .junk :: .junk :: .junk :: .junk :: .junk :: .junk :: .junk :: .junk :: .junk :: [],[]⟩)) ?_ ?_ ?_ ?_
      · rintro v4 v0 hr
        dsimp only [law07_Small_l1] at hr
        try dsimp only
        refine wC T (g:=?_)
        rcases ifs hr with ⟨h5,hr⟩|⟨h5,hr⟩
        · have T:=an h5 T
          refine wA T (g:=?_)
          obtain ⟨v6,h6,hr⟩:=bs hr
          have T:=an (gx e_Li_ h6) T
          refine wC T (g:=?_)
          rcases ifs hr with ⟨h7,hr⟩|⟨h7,hr⟩
          · have T:=an h7 T
            refine wa_ T (g:=?_)
            cases hr
            refine ⟨rfl,?_⟩
            exact wk_ T [] rfl .nil
          · have T:=an h7 T
            refine wa_ T (g:=?_)
            cases hr
            refine ⟨rfl,?_⟩
            exact wk_ T [] rfl .nil
        · have T:=an h5 T
          refine wa_ T (g:=?_)
          cases hr
          refine ⟨rfl,?_⟩
          exact wk_ T [] rfl .nil
      · intro e h;rcases e with _|e<;>cases h
      · try dsimp only
        rcases v7 with _|_
        · try dsimp only at hr
          try dsimp only
          refine wa_ T (g:=?_)
          cases hr
          refine ⟨.inr rfl,_,(ry T),?_⟩
          exact wk_ T [] rfl .nil
        · try dsimp only at hr
          try dsimp only
          refine wa_ T (g:=?_)
          cases hr
          refine ⟨.inr rfl,_,(ry T),?_⟩
          exact wk_ T [] rfl .nil
      · try dsimp only
        exact wk_ T [] rfl .nil
  rfl

end Go.Rex

namespace Go.Rex
open Go.Proofs
open Go Go.Rex Go.RowKit
set_option maxRecDepth 100000
set_option maxHeartbeats 200000
def y2:=an @ag87 <| an @fd89_1 <| an @fd91_1 <| an @fd91_2 <| an @fd91_3 <| an @fd93_0 <| an @fd93_1 <| @so87
theorem law07_short_spec {v1 : Int} {v2 : (List Int)} {v3 : Int} {v4 : (List Int)} {v5 : (List Int)} {v6 : (List Int)} {v7 : Bool} (hr : law07_short v1 v2 v3 v4 v5 v6 = some (v7)) : Spec (lim Tryz.prog) 48 [.agg [.v (.int .i64 v1),.list 1 (v2.map e_i),.v (.int .i64 v3),.list 1 (v4.map e_i),.list 1 (v5.map e_i),.list 1 (v6.map e_i)]] ⟨[.v (.bool v7)],[]⟩:=by
  unfold law07_short at hr
  have T:=an y2 <| @e_i.eq_1
  apply Spec.fn Tryz.func48 rfl
  focus (simp [Tryz.f48]<;>exact rfl)
  focus
    refine wD T (g:=?_)
    rcases ifs hr with ⟨h1,hr⟩|⟨h1,hr⟩
    · have T:=an h1 T
      refine wC T (g:=?_)
      rcases ifs hr with ⟨h2,hr⟩|⟨h2,hr⟩
      · have T:=an h2 T
        refine wC T (g:=?_)
        rcases ifs hr with ⟨h3,hr⟩|⟨h3,hr⟩
        · have T:=an h3 T
          refine wC T (g:=?_)
          cases hr
          refine ⟨.inr rfl,_,(ry T),?_⟩
          exact wk_ T [] rfl .nil
        · have T:=an h3 T
          refine wa_ T (g:=?_)
          cases hr
          refine ⟨.inr rfl,_,(ry T),?_⟩
          exact wk_ T [] rfl .nil
      · have T:=an h2 T
        refine wa_ T (g:=?_)
        cases hr
        refine ⟨.inr rfl,_,(ry T),?_⟩
        exact wk_ T [] rfl .nil
    · have T:=an h1 T
      refine wa_ T (g:=?_)
      cases hr
      refine ⟨.inr rfl,_,(ry T),?_⟩
      exact wk_ T [] rfl .nil
  rfl

end Go.Rex

namespace Go.Rex
open Go.Proofs
open Go Go.Rex Go.RowKit
set_option maxRecDepth 100000
set_option maxHeartbeats 200000
def y3:=an @by3 <| an @cs3 <| an @ni87 <| an @so87 <| @zc3
theorem base_CopyInts_spec {v1 : (List Int)} {v2 : (List Int)} (hr : base_CopyInts v1 = some (v2)) : Spec (lim Tryz.prog) 109 [.list 1 (v1.map e_i)] ⟨[.lsl 0 0 v2.length],[.rows 1 (v2.map e_i)]⟩:=by
  unfold base_CopyInts at hr
  have T:=an y3 <| @e_i.eq_1
  apply Spec.fn Tryz.func109 rfl
  focus (simp [Tryz.f109]<;>exact rfl)
  focus
    refine wa_ T (g:=?_)
    apply TO.bl e_i ([] : List Int) (wn T) rfl (by simp only [zz,y3,e_i,Nat.reduceAdd,Nat.reduceMul,Nat.reduceLeDiff,Nat.reduceEqDiff,tslice,tparts];exact rfl) rfl rfl
    repeat exact sd T
    refine wa_ T (g:=?_)
    obtain ⟨v3,h1,hr⟩:=bs hr
    apply TO.ap (f:=e_i) (xs:=([] : List Int)) (ys:=v1) (wn T) rfl rfl (by first|rfl|simp only [List.length_set]) rfl rfl so87 ni87 zc3 rfl (by rw [by3];exact h1) (fun _=>⟨rfl,rfl,rfl⟩)
    repeat exact sd T
    refine wa_ T (g:=?_)
    cases hr
    refine ⟨.inr rfl,_,(ry T),?_⟩
    exact wr [some 0] rfl (.rows .nil rfl rfl)
  rfl

end Go.Rex

namespace Go.Rex
open Go.Proofs
open Go Go.Rex Go.RowKit
set_option maxRecDepth 100000
set_option maxHeartbeats 200000
def y4:=an @ag87 <| an @by87 <| an @cs87 <| an @ni77 <| an @ok87 <| an @so77 <| an @zc87 <| @wi64_0a1
theorem base_CopyLists_spec {v1 : (List (List Int))} {v2 : (List (List Int))} (hr : base_CopyLists v1 = some (v2)) : Spec (lim Tryz.prog) 108 [.list 1 (v1.map e_Li_)] ⟨[.lsl 0 0 v2.length],[.rows 1 (v2.map e_Li_)]⟩:=by
  unfold base_CopyLists at hr
  have T:=an y4 <| @e_Li_.eq_1
  apply Spec.fn Tryz.func108 rfl
  focus (simp [Tryz.f108]<;>exact rfl)
  focus
    refine wa_ T (g:=?_)
    apply TX.vt (α:=(List Int)) e_Li_ 3 1 rfl
    repeat exact sd T
    with_reducible apply TX.here
    refine wa_ T (g:=?_)
    obtain ⟨v12,h9,hr⟩:=bs hr
    refine TX.loopE (step:=base_CopyLists_l1 v1) (x:=(([] : List (List Int)),0)) h9 (fun (v3,v4)=>⟨.list 1 (v1.map e_Li_) :: .junk :: .junk :: .lsl 0 0 v3.length :: .v (.int .i64 v4) :: .junk :: .junk :: .junk :: .junk :: .junk :: .junk :: .junk :: .junk :: .junk :: .junk :: .junk :: .junk :: .junk :: .junk :: .junk :: [],[.rows 1 (v3.map e_Li_)]⟩) (fun v8=>(.exit 0,⟨.junk :: .junk :: .junk :: .lsl 0 0 v8.length :: .junk :: .junk :: .junk :: .junk :: .junk :: .junk :: .junk :: .junk :: .junk :: .junk :: .junk :: .junk :: .junk :: .junk :: .junk :: .junk :: [],[.rows 1 (v8.map e_Li_)]⟩)) ?_ ?_ ?_ ?_
    · rintro ⟨v3,v4⟩ v0 hr
      dsimp only [base_CopyLists_l1] at hr
      try dsimp only
      refine wc_ T (g:=?_)
      rcases ifs hr with ⟨h5,hr⟩|⟨h5,hr⟩
      · have T:=an h5 T
        refine wa_ T (g:=?_)
        obtain ⟨v9,h6,hr⟩:=bs hr
        have h6m:=tidx_map (f:=e_Li_) h6
        have h6l:=getI_lt h6
        try simp only [List.length_set] at h6l
        have h6a:=getI_at h6
        have T:=an h6m T
        have T:=an h6l T
        have T:=an h6a T
        refine wA T (g:=?_)
        obtain ⟨v10,h7,hr⟩:=bs hr
        apply TO.cal (wn T) rfl goFn109 (base_CopyInts_spec h7) rfl rfl rfl
        repeat exact sd T
        refine wa_ T (g:=?_)
        apply TO.frz 1 rfl rfl
        repeat exact sd T
        refine wa_ T (g:=?_)
        apply TO.bm e_Li_ ([v10] : List (List Int)) (wn T) rfl (by simp only [zz,y4,e_Li_,Nat.reduceAdd,Nat.reduceMul,Nat.reduceLeDiff,Nat.reduceEqDiff,tslice,tparts,h5,h6m,h6l,h6a];exact rfl) rfl
        repeat exact sd T
        refine wa_ T (g:=?_)
        obtain ⟨v11,h8,hr⟩:=bs hr
        apply TO.ap (f:=e_Li_) (xs:=v3) (ys:=([v10] : List (List Int))) (wn T) rfl rfl (by first|rfl|simp only [List.length_set]) rfl rfl so77 ni77 zc87 rfl (by rw [by87];exact h8) (fun _=>⟨rfl,rfl,rfl⟩)
        repeat exact sd T
        refine wa_ T (g:=?_)
        cases hr
        refine ⟨rfl,?_⟩
        exact wk_ T [some 0] rfl (.rows .nil rfl rfl)
      · have T:=an h5 T
        refine wa_ T (g:=?_)
        cases hr
        refine ⟨rfl,?_⟩
        exact wk_ T [some 0] rfl (.rows .nil rfl rfl)
    · intro e h;cases h
    · try dsimp only
      refine wa_ T (g:=?_)
      cases hr
      refine ⟨.inr rfl,_,(ry T),?_⟩
      exact wr [some 0] rfl (.rows .nil rfl rfl)
    · try dsimp only
      exact wr [some 0] rfl (.rows .nil rfl rfl)
  rfl

end Go.Rex

namespace Go.Rex
open Go.Proofs
open Go Go.Rex Go.RowKit
set_option maxRecDepth 100000
set_option maxHeartbeats 200000
def y5:=an @ag77 <| an @ag86 <| an @cs77 <| an @cs86 <| an @fd86_0 <| an @ok77 <| an @ok86 <| @zc86
theorem ref07_CopyTask_spec {v1 : (List (List Int))} {v2 : Int} {v3 : (List (List Int))} {v4 : Int} (hr : ref07_CopyTask v1 v2 = some (v3,v4)) : Spec (lim Tryz.prog) 50 [.agg [.list 1 (v1.map e_Li_),.v (.int .i64 v2)]] ⟨[.agg [.lsl 0 0 v3.length,.v (.int .i64 v4)]],[.rows 1 (v3.map e_Li_)]⟩:=by
  unfold ref07_CopyTask at hr
  have T:=an y5 <| @e_Li_.eq_1
  apply Spec.fn Tryz.func50 rfl
  focus (simp [Tryz.f50]<;>exact rfl)
  focus
    repeat (first|(with_reducible first|refine mv ?_|refine TO.nil ?_)|((with_reducible first|apply TO.bx (dst:=some 1)|apply TO.al|apply TO.fa|apply TO.ld);(repeat (focus (show _ = _;first|exact k1 rfl|exact k2 rfl|(simp only [zz,y5,e_Li_,Nat.reduceAdd,Nat.reduceMul,Nat.reduceLeDiff,Nat.reduceEqDiff,tfieldAddr,tload,rowOf,partT,List.getElem?_map]<;>exact rfl)|exact rfl)));(with_reducible apply TO.here))|((with_reducible apply TX.region);(focus (simp only [zl]<;>exact rfl));(focus rfl);(try dsimp only))|fail)
    obtain ⟨v5,h1,hr⟩:=bs hr
    apply TO.cal (wn T) rfl goFn108 (base_CopyLists_spec h1) rfl rfl rfl
    repeat exact sd T
    refine wA T (g:=?_)
    cases hr
    refine ⟨.inr rfl,_,(ry T),?_⟩
    exact wr [some 2] rfl (.rows .nil rfl rfl)
  rfl

end Go.Rex

namespace Go.Rex
open Go.Proofs
open Go Go.Rex Go.RowKit
set_option maxRecDepth 100000
set_option maxHeartbeats 200000
def y6:=an @ag87 <| an @ag89 <| an @cs87 <| an @cs89 <| an @fd89_1 <| an @ok87 <| an @ok89 <| @zc89
theorem ref07_CopyOpen_spec {v1 : Int} {v2 : (List Int)} {v3 : Int} {v4 : (List Int)} (hr : ref07_CopyOpen v1 v2 = some (v3,v4)) : Spec (lim Tryz.prog) 51 [.agg [.v (.int .i64 v1),.list 1 (v2.map e_i)]] ⟨[.agg [.v (.int .i64 v3),.lsl 0 0 v4.length]],[.rows 1 (v4.map e_i)]⟩:=by
  unfold ref07_CopyOpen at hr
  have T:=an y6 <| @e_i.eq_1
  apply Spec.fn Tryz.func51 rfl
  focus (simp [Tryz.f51]<;>exact rfl)
  focus
    repeat (first|(with_reducible first|refine mv ?_|refine TO.nil ?_)|((with_reducible first|apply TO.bx (dst:=some 1)|apply TO.al|apply TO.fa|apply TO.ld);(repeat (focus (show _ = _;first|exact k1 rfl|exact k2 rfl|(simp only [zz,y6,e_i,Nat.reduceAdd,Nat.reduceMul,Nat.reduceLeDiff,Nat.reduceEqDiff,tfieldAddr,tload,rowOf,partT,List.getElem?_map]<;>exact rfl)|exact rfl)));(with_reducible apply TO.here))|((with_reducible apply TX.region);(focus (simp only [zl]<;>exact rfl));(focus rfl);(try dsimp only))|fail)
    obtain ⟨v5,h1,hr⟩:=bs hr
    apply TO.cal (wn T) rfl goFn109 (base_CopyInts_spec h1) rfl rfl rfl
    repeat exact sd T
    refine wA T (g:=?_)
    cases hr
    refine ⟨.inr rfl,_,(ry T),?_⟩
    exact wr [some 2] rfl (.rows .nil rfl rfl)
  rfl

end Go.Rex

namespace Go.Rex
open Go.Proofs
open Go Go.Rex Go.RowKit
set_option maxRecDepth 100000
set_option maxHeartbeats 200000
theorem array_task_opened_spec {v1 : (List (List Int))} {v2 : Int} {v3 : Int} {v4 : (List Int)} {v5 : Int} {v6 : (List Int)} {v7 : (List (List Int))} {v8 : Int} (hr : array_task_opened v1 v2 v3 v4 = some (v5,v6,v7,v8)) : Spec (lim Tryz.prog) 104 [.agg [.list 1 (v1.map e_Li_),.v (.int .i64 v2)],.agg [.v (.int .i64 v3),.list 1 (v4.map e_i)]] ⟨[.func 145 [] [.fptr true [.v (.int .i64 v5),.list 1 (v6.map e_i)] 0,.fptr true [.list 1 (v7.map e_Li_),.v (.int .i64 v8)] 0]],[]⟩:=by
  unfold array_task_opened at hr
  have T:=an @e_Li_.eq_1 <| @e_i.eq_1
  apply Spec.fn Tryz.func104 rfl
  focus (simp [Tryz.f104]<;>exact rfl)
  focus
    refine wb_ T (g:=?_)
    cases hr
    refine ⟨.inr rfl,_,(ry T),?_⟩
    exact wr [] rfl .nil
  rfl

end Go.Rex

namespace Go.Rex
open Go.Proofs
open Go Go.Rex Go.RowKit
set_option maxRecDepth 100000
set_option maxHeartbeats 200000
theorem array_counted_spec {v1 : Int} {v2 : Int} {v3 : Int} {v4 : Int} (hr : array_counted v1 v2 = some (v3,v4)) : Spec (lim Tryz.prog) 66 [.v (.int .i64 v1),.v (.int .i64 v2)] ⟨[.func 123 [] [.fptr true [.v (.int .i64 v3)] 0,.fptr true [.v (.int .i64 v4)] 0]],[]⟩:=by
  unfold array_counted at hr
  have T:=trivial
  apply Spec.fn Tryz.func66 rfl
  focus (simp [Tryz.f66]<;>exact rfl)
  focus
    refine wb_ T (g:=?_)
    cases hr
    refine ⟨.inr rfl,_,(ry T),?_⟩
    exact wr [] rfl .nil
  rfl

end Go.Rex

namespace Go.Rex
open Go.Proofs
open Go Go.Rex Go.RowKit
set_option maxRecDepth 100000
set_option maxHeartbeats 200000
theorem array_each_3fc6_spec {v1 : Int} {v2 : (List (List Int))} {v3 : Int} {v4 : Int} {v5 : (List (List Int))} {v6 : Int} (hr : array_each_3fc6 v1 v2 v3 = some (v4,v5,v6)) : Spec (lim Tryz.prog) 143 [.v (.int .i64 v1),.func 144 [] [.fptr true [.list 1 (v2.map e_Li_),.v (.int .i64 v3)] 0]] ⟨[.func 168 [] [.fptr true [.v (.int .i64 v4)] 0,.fptr true [.func 144 [] [.fptr true [.list 1 (v5.map e_Li_),.v (.int .i64 v6)] 0]] 0]],[]⟩:=by
  unfold array_each_3fc6 at hr
  have T:=@e_Li_.eq_1
  apply Spec.fn Tryz.func143 rfl
  focus (simp [Tryz.f143]<;>exact rfl)
  focus
    refine wb_ T (g:=?_)
    cases hr
    refine ⟨.inr rfl,_,(ry T),?_⟩
    exact wr [] rfl .nil
  rfl

end Go.Rex

namespace Go.Rex
open Go.Proofs
open Go Go.Rex Go.RowKit
set_option maxRecDepth 100000
set_option maxHeartbeats 200000
theorem array_refuse_spec {v1 : Bool} {v2 : Int} {v3 : Bool} {v4 : Int} (hr : array_refuse v1 v2 = some (v3,v4)) : Spec (lim Tryz.prog) 70 [.v (.bool v1),.v (.int .i64 v2)] ⟨[.func 126 [] [.fptr true [.v (.bool v3)] 0,.fptr true [.v (.int .i64 v4)] 0]],[]⟩:=by
  unfold array_refuse at hr
  have T:=trivial
  apply Spec.fn Tryz.func70 rfl
  focus (simp [Tryz.f70]<;>exact rfl)
  focus
    refine wb_ T (g:=?_)
    cases hr
    refine ⟨.inr rfl,_,(ry T),?_⟩
    exact wr [] rfl .nil
  rfl

end Go.Rex

namespace Go.Rex
open Go.Proofs
open Go Go.Rex Go.RowKit
set_option maxRecDepth 100000
set_option maxHeartbeats 200000
theorem array_within_spec {v1 : Int} {v2 : Int} {v3 : Int} {v4 : Bool} {v5 : Int} (hr : array_within v1 v2 v3 = some (v4,v5)) : Spec (lim Tryz.prog) 100 [.v (.int .i64 v1),.v (.int .i64 v2),.v (.int .i64 v3)] ⟨[.func 126 [] [.fptr true [.v (.bool v4)] 0,.fptr true [.v (.int .i64 v5)] 0]],[]⟩:=by
  unfold array_within at hr
  have T:=trivial
  apply Spec.fn Tryz.func100 rfl
  focus (simp [Tryz.f100]<;>exact rfl)
  focus
    refine wa_ T (g:=?_)
    rcases ifs hr with ⟨h1,hr⟩|⟨h1,hr⟩
    · have T:=an h1 T
      refine wa_ T (g:=?_)
      obtain ⟨⟨v6,v7⟩,h2,hr⟩:=bs hr
      try dsimp only at hr
      apply TO.cal (wn T) rfl goFn70 (array_refuse_spec h2) rfl rfl rfl
      repeat exact sd T
      refine wa_ T (g:=?_)
      cases hr
      refine ⟨.inr rfl,_,(ry T),?_⟩
      exact wk_ T [] rfl .nil
    · have T:=an h1 T
      refine wa_ T (g:=?_)
      obtain ⟨⟨v8,v9⟩,h3,hr⟩:=bs hr
      try dsimp only at hr
      apply TO.cal (wn T) rfl goFn70 (array_refuse_spec h3) rfl rfl rfl
      repeat exact sd T
      refine wa_ T (g:=?_)
      cases hr
      refine ⟨.inr rfl,_,(ry T),?_⟩
      exact wk_ T [] rfl .nil
  rfl

end Go.Rex

namespace Go.Rex
open Go.Proofs
open Go Go.Rex Go.RowKit
set_option maxRecDepth 100000
set_option maxHeartbeats 200000
def y7:=an @ag27 <| @ag4
theorem array_refuse_c1_11f9_spec {v1 : Bool} {v2 : Int} {v3 : Int} (hr : array_refuse_c1_11f9 v1 v2 = some (v3)) : Spec (lim Tryz.prog) 126 [.fptr true [.v (.bool v1)] 0,.fptr true [.v (.int .i64 v2)] 0] ⟨[.v (.int .i64 v3)],[]⟩:=by
  unfold array_refuse_c1_11f9 at hr
  have T:=y7
  apply Spec.fn Tryz.func126 rfl
  focus (simp [Tryz.f126]<;>exact rfl)
  focus
    refine wA T (g:=?_)
    rcases ifs hr with ⟨h1,hr⟩|⟨h1,hr⟩
    · have T:=an h1 T
      refine wA T (g:=?_)
      cases hr
      refine ⟨.inr rfl,_,(ry T),?_⟩
      exact wk_ T [] rfl .nil
    · have T:=an h1 T
      refine wa_ T (g:=?_)
      cases hr
      refine ⟨.inr rfl,_,(ry T),?_⟩
      exact wk_ T [] rfl .nil
  rfl

end Go.Rex

namespace Go.Rex
open Go.Proofs
open Go Go.Rex Go.RowKit
set_option maxRecDepth 100000
set_option maxHeartbeats 200000
def y8:=an @ag121 <| an @cs121 <| an @ok121 <| an @so182 <| an @wi64_0a1 <| @wi64_1a1
theorem array_firstError_751b_spec {v1 : Bool} {v2 : Int} {v3 : Bool} {v4 : Int} {v5 : Int} (hr : array_firstError_751b v1 v2 v3 v4 = some (v5)) : Spec (lim Tryz.prog) 63 [.list 1 [[.func 126 [] [.fptr true [.v (.bool v1)] 0,.fptr true [.v (.int .i64 v2)] 0]],[.func 126 [] [.fptr true [.v (.bool v3)] 0,.fptr true [.v (.int .i64 v4)] 0]]]] ⟨[.v (.int .i64 v5)],[]⟩:=by
  unfold array_firstError_751b at hr
  have T:=y8
  apply Spec.fn Tryz.func63 rfl
  focus (simp [Tryz.f63]<;>exact rfl)
  focus
    refine wc_ T (g:=?_)
    refine TX.unroll ?_
    repeat (first|(with_reducible first|refine mv ?_|refine TO.nil ?_)|((with_reducible first|apply TO.bin|apply TO.ia|apply TO.ld|apply TO.asg|apply TO.mv);(repeat (focus (show _ = _;first|exact k1 rfl|exact k2 rfl|(simp only [zz,y8,Nat.reduceAdd,Nat.reduceMul,Nat.reduceLeDiff,Nat.reduceEqDiff,tindexAddr,z5,Int.reduceToNat,Int.reduceLE,Int.reduceLT,Int.cast_ofNat_Int,tload,rowOf,partT,List.getElem?_map]<;>exact rfl)|exact rfl)));(with_reducible apply TO.here))|((with_reducible apply TX.region);(focus (simp only [zl]<;>exact rfl));(focus rfl);(try dsimp only))|((with_reducible apply TX.cond_true);(focus rfl);(focus (first|rfl|(simp only [z1,zn];done))))|((with_reducible apply TX.cond_false);(focus rfl);(focus (first|rfl|(simp only [z1,zn];done))))|fail)
    obtain ⟨v6,h1,hr⟩:=bs hr
    apply TO.cal (wn T) rfl goFn126 (array_refuse_c1_11f9_spec h1) rfl rfl rfl
    repeat exact sd T
    refine wa_ T (g:=?_)
    rcases ifs hr with ⟨h2,hr⟩|⟨h2,hr⟩
    · have T:=an h2 T
      refine wa_ T (g:=?_)
      cases hr
      refine ⟨.inr rfl,_,(ry T),?_⟩
      exact wk_ T [] rfl .nil
    · have T:=an h2 T
      refine wa_ T (g:=?_)
      refine TX.unroll ?_
      repeat (first|(with_reducible first|refine mv ?_|refine TO.nil ?_)|((with_reducible first|apply TO.bin|apply TO.ia|apply TO.ld|apply TO.asg|apply TO.mv);(repeat (focus (show _ = _;first|exact k1 rfl|exact k2 rfl|(simp only [zz,y8,Nat.reduceAdd,Nat.reduceMul,Nat.reduceLeDiff,Nat.reduceEqDiff,tindexAddr,z5,Int.reduceToNat,Int.reduceLE,Int.reduceLT,Int.cast_ofNat_Int,tload,rowOf,partT,List.getElem?_map,h2]<;>exact rfl)|exact rfl)));(with_reducible apply TO.here))|((with_reducible apply TX.region);(focus (simp only [zl]<;>exact rfl));(focus rfl);(try dsimp only))|((with_reducible apply TX.cond_true);(focus rfl);(focus (first|rfl|(simp only [z1,zn,h2];done))))|((with_reducible apply TX.cond_false);(focus rfl);(focus (first|rfl|(simp only [z1,zn,h2];done))))|fail)
      obtain ⟨v7,h3,hr⟩:=bs hr
      apply TO.cal (wn T) rfl goFn126 (array_refuse_c1_11f9_spec h3) rfl rfl rfl
      repeat exact sd T
      refine wa_ T (g:=?_)
      rcases ifs hr with ⟨h4,hr⟩|⟨h4,hr⟩
      · have T:=an h4 T
        refine wa_ T (g:=?_)
        cases hr
        refine ⟨.inr rfl,_,(ry T),?_⟩
        exact wk_ T [] rfl .nil
      · have T:=an h4 T
        refine wa_ T (g:=?_)
        refine TX.unroll ?_
        refine wa_ T (g:=?_)
        cases hr
        refine ⟨.inr rfl,_,(ry T),?_⟩
        exact wk_ T [] rfl .nil
  rfl

end Go.Rex

namespace Go.Rex
open Go.Proofs
open Go Go.Rex Go.RowKit
set_option maxRecDepth 100000
set_option maxHeartbeats 200000
def y9:=an @ag3 <| an @cs121 <| an @so182 <| @zc121
theorem array_counted_c1_b585_spec {v1 : Int} {v2 : Int} {v3 : Int} (hr : array_counted_c1_b585 v1 v2 = some (v3)) : Spec (lim Tryz.prog) 123 [.fptr true [.v (.int .i64 v1)] 0,.fptr true [.v (.int .i64 v2)] 0] ⟨[.v (.int .i64 v3)],[]⟩:=by
  unfold array_counted_c1_b585 at hr
  have T:=y9
  apply Spec.fn Tryz.func123 rfl
  focus (simp [Tryz.f123]<;>exact rfl)
  focus
    refine wA T (g:=?_)
    obtain ⟨⟨v4,v5⟩,h1,hr⟩:=bs hr
    try dsimp only at hr
    apply TD.cal (wn T) rfl goFn70 (array_refuse_spec h1) rfl rfl rfl
    repeat exact sd T
    refine wA T (g:=?_)
    obtain ⟨⟨v6,v7⟩,h2,hr⟩:=bs hr
    try dsimp only at hr
    apply TD.cal (wn T) rfl goFn70 (array_refuse_spec h2) rfl rfl rfl
    repeat exact sd T
    refine we_ T (g:=?_)
    obtain ⟨v8,h3,hr⟩:=bs hr
    apply TD.cal (wn T) rfl goFn63 (array_firstError_751b_spec h3) rfl rfl rfl
    repeat exact sd T
    refine wa_ T (g:=?_)
    cases hr
    refine ⟨.inr rfl,_,(ry T),?_⟩
    exact wr [] rfl .nil
  rfl

end Go.Rex

namespace Go.Rex
open Go.Proofs
open Go Go.Rex Go.RowKit
set_option maxRecDepth 100000
set_option maxHeartbeats 200000
def y10:=an @ag77 <| an @ag87 <| an @cs87 <| an @fd158_0 <| an @fd86_0 <| an @ok87 <| an @so77 <| @so87
theorem array_task_columns_spec {v1 : (List (List Int))} {v2 : Int} {v3 : Int} (hr : array_task_columns v1 v2 = some (v3)) : Spec (lim Tryz.prog) 142 [.agg [.list 1 (v1.map e_Li_),.v (.int .i64 v2)]] ⟨[.v (.int .i64 v3)],[]⟩:=by
  unfold array_task_columns at hr
  have T:=an y10 <| @e_Li_.eq_1
  apply Spec.fn Tryz.func142 rfl
  focus (simp [Tryz.f142]<;>exact rfl)
  focus
    refine wB T (g:=?_)
    obtain ⟨v4,h1,hr⟩:=bs hr
    have T:=an (gx e_Li_ h1) T
    refine wC T (g:=?_)
    cases hr
    refine ⟨.inr rfl,_,(ry T),?_⟩
    exact wr [] rfl .nil
  rfl

end Go.Rex

namespace Go.Rex
open Go.Proofs
open Go Go.Rex Go.RowKit
set_option maxRecDepth 100000
set_option maxHeartbeats 200000
def y11:=an @ag158 <| an @cs158 <| @ok158
theorem array_task_check_c1_bdde_spec {v1 : (List (List Int))} {v2 : Int} {v3 : Int} (hr : array_task_check_c1_bdde v1 v2 = some (v3)) : Spec (lim Tryz.prog) 141 [.fptr true [.list 1 (v1.map e_Li_),.v (.int .i64 v2)] 0] ⟨[.v (.int .i64 v3)],[]⟩:=by
  unfold array_task_check_c1_bdde at hr
  have T:=an y11 <| @e_Li_.eq_1
  apply Spec.fn Tryz.func141 rfl
  focus (simp [Tryz.f141]<;>exact rfl)
  focus
    refine wA T (g:=?_)
    obtain ⟨v4,h1,hr⟩:=bs hr
    apply TO.cal (wn T) rfl goFn142 (array_task_columns_spec h1) rfl rfl rfl
    repeat exact sd T
    refine wa_ T (g:=?_)
    obtain ⟨⟨v5,v6⟩,h2,hr⟩:=bs hr
    try dsimp only at hr
    apply TO.cal (wn T) rfl goFn66 (array_counted_spec h2) rfl rfl rfl
    repeat exact sd T
    refine wa_ T (g:=?_)
    obtain ⟨v7,h3,hr⟩:=bs hr
    apply TO.cal (wn T) rfl goFn123 (array_counted_c1_b585_spec h3) rfl rfl rfl
    repeat exact sd T
    refine wa_ T (g:=?_)
    cases hr
    refine ⟨.inr rfl,_,(ry T),?_⟩
    exact wr [] rfl .nil
  rfl

end Go.Rex

namespace Go.Rex
open Go.Proofs
open Go Go.Rex Go.RowKit
set_option maxRecDepth 100000
set_option maxHeartbeats 200000
theorem array_each_aa71_spec {v1 : Int} {v2 : (List Int)} {v3 : Int} {v4 : Int} {v5 : Int} {v6 : (List Int)} {v7 : Int} {v8 : Int} (hr : array_each_aa71 v1 v2 v3 v4 = some (v5,v6,v7,v8)) : Spec (lim Tryz.prog) 143 [.v (.int .i64 v1),.func 162 [] [.fptr true [.list 1 (v2.map e_i)] 0,.fptr true [.v (.int .i64 v3)] 0,.fptr true [.v (.int .i64 v4)] 0]] ⟨[.func 168 [] [.fptr true [.v (.int .i64 v5)] 0,.fptr true [.func 162 [] [.fptr true [.list 1 (v6.map e_i)] 0,.fptr true [.v (.int .i64 v7)] 0,.fptr true [.v (.int .i64 v8)] 0]] 0]],[]⟩:=by
  unfold array_each_aa71 at hr
  have T:=@e_i.eq_1
  apply Spec.fn Tryz.func143 rfl
  focus (simp [Tryz.f143]<;>exact rfl)
  focus
    refine wb_ T (g:=?_)
    cases hr
    refine ⟨.inr rfl,_,(ry T),?_⟩
    exact wr [] rfl .nil
  rfl

end Go.Rex

namespace Go.Rex
open Go.Proofs
open Go Go.Rex Go.RowKit
set_option maxRecDepth 100000
set_option maxHeartbeats 200000
def y12:=an @ag87 <| @so87
theorem array_allWithin_spec {v1 : (List Int)} {v2 : Int} {v3 : Int} {v4 : Int} {v5 : (List Int)} {v6 : Int} {v7 : Int} (hr : array_allWithin v1 v2 v3 = some (v4,v5,v6,v7)) : Spec (lim Tryz.prog) 124 [.list 1 (v1.map e_i),.v (.int .i64 v2),.v (.int .i64 v3)] ⟨[.func 168 [] [.fptr true [.v (.int .i64 v4)] 0,.fptr true [.func 162 [] [.fptr true [.list 1 (v5.map e_i)] 0,.fptr true [.v (.int .i64 v6)] 0,.fptr true [.v (.int .i64 v7)] 0]] 0]],[]⟩:=by
  unfold array_allWithin at hr
  have T:=an y12 <| @e_i.eq_1
  apply Spec.fn Tryz.func124 rfl
  focus (simp [Tryz.f124]<;>exact rfl)
  focus
    refine wD T (g:=?_)
    obtain ⟨⟨v8,v9,v10,v11⟩,h1,hr⟩:=bs hr
    try dsimp only at hr
    apply TO.cal (wn T) rfl goFn143 (array_each_aa71_spec h1) rfl rfl rfl
    repeat exact sd T
    refine wa_ T (g:=?_)
    cases hr
    refine ⟨.inr rfl,_,(ry T),?_⟩
    exact wr [] rfl .nil
  rfl

end Go.Rex

namespace Go.Rex
open Go.Proofs
open Go Go.Rex Go.RowKit
set_option maxRecDepth 100000
set_option maxHeartbeats 200000
def y13:=an @ag3 <| an @ag87 <| an @cs3 <| an @ok3 <| @so87
theorem array_allWithin_c1_ea58_spec {v1 : Int} {v2 : (List Int)} {v3 : Int} {v4 : Int} {v5 : Int} (hr : array_allWithin_c1_ea58 v1 v2 v3 v4 = some (v5)) : Spec (lim Tryz.prog) 162 [.v (.int .i64 v1),.fptr true [.list 1 (v2.map e_i)] 0,.fptr true [.v (.int .i64 v3)] 0,.fptr true [.v (.int .i64 v4)] 0] ⟨[.v (.int .i64 v5)],[]⟩:=by
  unfold array_allWithin_c1_ea58 at hr
  have T:=an y13 <| @e_i.eq_1
  apply Spec.fn Tryz.func162 rfl
  focus (simp [Tryz.f162]<;>exact rfl)
  focus
    refine wA T (g:=?_)
    obtain ⟨v6,h1,hr⟩:=bs hr
    have T:=an (gx e_i h1) T
    refine wA T (g:=?_)
    obtain ⟨⟨v7,v8⟩,h2,hr⟩:=bs hr
    try dsimp only at hr
    apply TD.cal (wn T) rfl goFn100 (array_within_spec h2) rfl rfl rfl
    repeat exact sd T
    refine wa_ T (g:=?_)
    obtain ⟨v9,h3,hr⟩:=bs hr
    apply TD.cal (wn T) rfl goFn126 (array_refuse_c1_11f9_spec h3) rfl rfl rfl
    repeat exact sd T
    refine wa_ T (g:=?_)
    cases hr
    refine ⟨.inr rfl,_,(ry T),?_⟩
    exact wr [] rfl .nil
  rfl

end Go.Rex

namespace Go.Rex
open Go.Proofs
open Go Go.Rex Go.RowKit
set_option maxRecDepth 100000
set_option maxHeartbeats 200000
def y14:=an @ag195 <| an @ag3 <| @wi64_0a1
theorem array_each_c1_6239_spec {v1 : Int} {v2 : (List Int)} {v3 : Int} {v4 : Int} {v5 : Int} (hr : array_each_c1_6239 v1 v2 v3 v4 = some (v5)) : Spec (lim Tryz.prog) 168 [.fptr true [.v (.int .i64 v1)] 0,.fptr true [.func 162 [] [.fptr true [.list 1 (v2.map e_i)] 0,.fptr true [.v (.int .i64 v3)] 0,.fptr true [.v (.int .i64 v4)] 0]] 0] ⟨[.v (.int .i64 v5)],[]⟩:=by
  unfold array_each_c1_6239 at hr
  have T:=an y14 <| @e_i.eq_1
  apply Spec.fn Tryz.func168 rfl
  focus (simp [Tryz.f168]<;>exact rfl)
  focus
    refine wA T (g:=?_)
    obtain ⟨v10,h7,hr⟩:=bs hr
    refine TX.loopE (step:=array_each_c1_6239_l1 v1 v2 v3 v4) (x:=0) h7 (fun v6=>⟨.junk :: .fptr true [.func 162 [] [.fptr true [.list 1 (v2.map e_i)] 0,.fptr true [.v (.int .i64 v3)] 0,.fptr true [.v (.int .i64 v4)] 0]] 0 :: .junk :: .junk :: .junk :: .v (.int .i64 v1) :: .v (.int .i64 v6) :: .junk :: .junk :: .junk :: .junk :: .junk :: .junk :: .junk :: .junk :: .junk :: [],[]⟩) (fun e=>match e with|(.inl v8)=>(.ret,⟨.junk :: .junk :: .v (.int .i64 v8) :: .junk :: .junk :: .junk :: .junk :: .junk :: .junk :: .junk :: .junk :: .junk :: .junk :: .junk :: .junk :: .junk :: [],[]⟩)|(.inr _)=>(.exit 0,⟨.junk :: .junk :: .junk :: .junk :: .junk :: .junk :: .junk :: .junk :: .junk :: .junk :: .junk :: .junk :: .junk :: .junk :: .junk :: .junk :: [],[]⟩)) ?_ ?_ ?_ ?_
    · rintro v6 v0 hr
      dsimp only [array_each_c1_6239_l1] at hr
      try dsimp only
      refine wa_ T (g:=?_)
      rcases ifs hr with ⟨h4,hr⟩|⟨h4,hr⟩
      · have T:=an h4 T
        refine wA T (g:=?_)
        obtain ⟨v9,h5,hr⟩:=bs hr
        apply TO.cal (wn T) rfl goFn162 (array_allWithin_c1_ea58_spec h5) rfl rfl rfl
        repeat exact sd T
        refine wa_ T (g:=?_)
        rcases ifs hr with ⟨h6,hr⟩|⟨h6,hr⟩
        · have T:=an h6 T
          refine wa_ T (g:=?_)
          cases hr
          refine ⟨rfl,?_⟩
          exact wk_ T [] rfl .nil
        · have T:=an h6 T
          refine wa_ T (g:=?_)
          cases hr
          refine ⟨rfl,?_⟩
          exact wk_ T [] rfl .nil
      · have T:=an h4 T
        refine wa_ T (g:=?_)
        cases hr
        refine ⟨rfl,?_⟩
        exact wk_ T [] rfl .nil
    · intro e h;rcases e with _|e<;>cases h
    · try dsimp only
      rcases v10 with v11|_
      · try dsimp only at hr
        try dsimp only
        refine wa_ T (g:=?_)
        cases hr
        refine ⟨.inr rfl,_,(ry T),?_⟩
        exact wr [] rfl .nil
      · try dsimp only at hr
        try dsimp only
        refine wa_ T (g:=?_)
        cases hr
        refine ⟨.inr rfl,_,(ry T),?_⟩
        exact wr [] rfl .nil
    · try dsimp only
      exact wr [] rfl .nil
  rfl

end Go.Rex

namespace Go.Rex
open Go.Proofs
open Go Go.Rex Go.RowKit
set_option maxRecDepth 100000
set_option maxHeartbeats 200000
def y15:=an @ag121 <| an @cs121 <| an @ok121 <| an @so182 <| an @wi64_0a1 <| @wi64_1a1
theorem array_firstError_d146_spec {v1 : Bool} {v2 : Int} {v3 : Int} {v4 : (List Int)} {v5 : Int} {v6 : Int} {v7 : Int} (hr : array_firstError_d146 v1 v2 v3 v4 v5 v6 = some (v7)) : Spec (lim Tryz.prog) 63 [.list 1 [[.func 126 [] [.fptr true [.v (.bool v1)] 0,.fptr true [.v (.int .i64 v2)] 0]],[.func 168 [] [.fptr true [.v (.int .i64 v3)] 0,.fptr true [.func 162 [] [.fptr true [.list 1 (v4.map e_i)] 0,.fptr true [.v (.int .i64 v5)] 0,.fptr true [.v (.int .i64 v6)] 0]] 0]]]] ⟨[.v (.int .i64 v7)],[]⟩:=by
  unfold array_firstError_d146 at hr
  have T:=an y15 <| @e_i.eq_1
  apply Spec.fn Tryz.func63 rfl
  focus (simp [Tryz.f63]<;>exact rfl)
  focus
    refine wc_ T (g:=?_)
    refine TX.unroll ?_
    repeat (first|(with_reducible first|refine mv ?_|refine TO.nil ?_)|((with_reducible first|apply TO.bin|apply TO.ia|apply TO.ld|apply TO.asg|apply TO.mv);(repeat (focus (show _ = _;first|exact k1 rfl|exact k2 rfl|(simp only [zz,y15,e_i,Nat.reduceAdd,Nat.reduceMul,Nat.reduceLeDiff,Nat.reduceEqDiff,tindexAddr,z5,Int.reduceToNat,Int.reduceLE,Int.reduceLT,Int.cast_ofNat_Int,tload,rowOf,partT,List.getElem?_map]<;>exact rfl)|exact rfl)));(with_reducible apply TO.here))|((with_reducible apply TX.region);(focus (simp only [zl]<;>exact rfl));(focus rfl);(try dsimp only))|((with_reducible apply TX.cond_true);(focus rfl);(focus (first|rfl|(simp only [z1,zn];done))))|((with_reducible apply TX.cond_false);(focus rfl);(focus (first|rfl|(simp only [z1,zn];done))))|fail)
    obtain ⟨v8,h1,hr⟩:=bs hr
    apply TO.cal (wn T) rfl goFn126 (array_refuse_c1_11f9_spec h1) rfl rfl rfl
    repeat exact sd T
    refine wa_ T (g:=?_)
    rcases ifs hr with ⟨h2,hr⟩|⟨h2,hr⟩
    · have T:=an h2 T
      refine wa_ T (g:=?_)
      cases hr
      refine ⟨.inr rfl,_,(ry T),?_⟩
      exact wk_ T [] rfl .nil
    · have T:=an h2 T
      refine wa_ T (g:=?_)
      refine TX.unroll ?_
      repeat (first|(with_reducible first|refine mv ?_|refine TO.nil ?_)|((with_reducible first|apply TO.bin|apply TO.ia|apply TO.ld|apply TO.asg|apply TO.mv);(repeat (focus (show _ = _;first|exact k1 rfl|exact k2 rfl|(simp only [zz,y15,e_i,Nat.reduceAdd,Nat.reduceMul,Nat.reduceLeDiff,Nat.reduceEqDiff,tindexAddr,z5,Int.reduceToNat,Int.reduceLE,Int.reduceLT,Int.cast_ofNat_Int,tload,rowOf,partT,List.getElem?_map,h2]<;>exact rfl)|exact rfl)));(with_reducible apply TO.here))|((with_reducible apply TX.region);(focus (simp only [zl]<;>exact rfl));(focus rfl);(try dsimp only))|((with_reducible apply TX.cond_true);(focus rfl);(focus (first|rfl|(simp only [z1,zn,h2];done))))|((with_reducible apply TX.cond_false);(focus rfl);(focus (first|rfl|(simp only [z1,zn,h2];done))))|fail)
      obtain ⟨v9,h3,hr⟩:=bs hr
      apply TO.cal (wn T) rfl goFn168 (array_each_c1_6239_spec h3) rfl rfl rfl
      repeat exact sd T
      refine wa_ T (g:=?_)
      rcases ifs hr with ⟨h4,hr⟩|⟨h4,hr⟩
      · have T:=an h4 T
        refine wa_ T (g:=?_)
        cases hr
        refine ⟨.inr rfl,_,(ry T),?_⟩
        exact wk_ T [] rfl .nil
      · have T:=an h4 T
        refine wa_ T (g:=?_)
        refine TX.unroll ?_
        refine wa_ T (g:=?_)
        cases hr
        refine ⟨.inr rfl,_,(ry T),?_⟩
        exact wk_ T [] rfl .nil
  rfl

end Go.Rex

namespace Go.Rex
open Go.Proofs
open Go Go.Rex Go.RowKit
set_option maxRecDepth 100000
set_option maxHeartbeats 200000
def y16:=an @ag158 <| an @ag77 <| an @ag87 <| an @cs121 <| an @cs158 <| an @cs87 <| an @fd158_0 <| an @fd86_0 <| an @ok158 <| an @ok87 <| an @so182 <| an @so77 <| an @so87 <| @zc121
theorem array_task_check_c2_a037_spec {v1 : Int} {v2 : (List (List Int))} {v3 : Int} {v4 : Int} (hr : array_task_check_c2_a037 v1 v2 v3 = some (v4)) : Spec (lim Tryz.prog) 144 [.v (.int .i64 v1),.fptr true [.list 1 (v2.map e_Li_),.v (.int .i64 v3)] 0] ⟨[.v (.int .i64 v4)],[]⟩:=by
  unfold array_task_check_c2_a037 at hr
  have T:=an y16 <| @e_Li_.eq_1
  apply Spec.fn Tryz.func144 rfl
  focus (simp [Tryz.f144]<;>exact rfl)
  focus
    refine wA T (g:=?_)
    obtain ⟨v5,h1,hr⟩:=bs hr
    have T:=an (gx e_Li_ h1) T
    refine wC T (g:=?_)
    obtain ⟨v6,h2,hr⟩:=bs hr
    apply TO.cal (wn T) rfl goFn142 (array_task_columns_spec h2) rfl rfl rfl
    repeat exact sd T
    refine wa_ T (g:=?_)
    obtain ⟨⟨v7,v8⟩,h3,hr⟩:=bs hr
    try dsimp only at hr
    apply TO.cal (wn T) rfl goFn70 (array_refuse_spec h3) rfl rfl rfl
    repeat exact sd T
    refine wa_ T (g:=?_)
    obtain ⟨⟨v9,v10,v11,v12⟩,h4,hr⟩:=bs hr
    try dsimp only at hr
    apply TO.cal (wn T) rfl goFn124 (array_allWithin_spec h4) rfl rfl rfl
    repeat exact sd T
    refine we_ T (g:=?_)
    obtain ⟨v13,h5,hr⟩:=bs hr
    apply TO.cal (wn T) rfl goFn63 (array_firstError_d146_spec h5) rfl rfl rfl
    repeat exact sd T
    refine wa_ T (g:=?_)
    cases hr
    refine ⟨.inr rfl,_,(ry T),?_⟩
    exact wr [] rfl .nil
  rfl

end Go.Rex

namespace Go.Rex
open Go.Proofs
open Go Go.Rex Go.RowKit
set_option maxRecDepth 100000
set_option maxHeartbeats 200000
def y17:=an @ag195 <| an @ag3 <| @wi64_0a1
theorem array_each_c1_a743_spec {v1 : Int} {v2 : (List (List Int))} {v3 : Int} {v4 : Int} (hr : array_each_c1_a743 v1 v2 v3 = some (v4)) : Spec (lim Tryz.prog) 168 [.fptr true [.v (.int .i64 v1)] 0,.fptr true [.func 144 [] [.fptr true [.list 1 (v2.map e_Li_),.v (.int .i64 v3)] 0]] 0] ⟨[.v (.int .i64 v4)],[]⟩:=by
  unfold array_each_c1_a743 at hr
  have T:=an y17 <| @e_Li_.eq_1
  apply Spec.fn Tryz.func168 rfl
  focus (simp [Tryz.f168]<;>exact rfl)
  focus
    refine wA T (g:=?_)
    obtain ⟨v9,h7,hr⟩:=bs hr
    refine TX.loopE (step:=array_each_c1_a743_l1 v1 v2 v3) (x:=0) h7 (fun v5=>⟨.junk :: .fptr true [.func 144 [] [.fptr true [.list 1 (v2.map e_Li_),.v (.int .i64 v3)] 0]] 0 :: .junk :: .junk :: .junk :: .v (.int .i64 v1) :: .v (.int .i64 v5) :: .junk :: .junk :: .junk :: .junk :: .junk :: .junk :: .junk :: .junk :: .junk :: [],[]⟩) (fun e=>match e with|(.inl v7)=>(.ret,⟨.junk :: .junk :: .v (.int .i64 v7) :: .junk :: .junk :: .junk :: .junk :: .junk :: .junk :: .junk :: .junk :: .junk :: .junk :: .junk :: .junk :: .junk :: [],[]⟩)|(.inr _)=>(.exit 0,⟨.junk :: .junk :: .junk :: .junk :: .junk :: .junk :: .junk :: .junk :: .junk :: .junk :: .junk :: .junk :: .junk :: .junk :: .junk :: .junk :: [],[]⟩)) ?_ ?_ ?_ ?_
    · rintro v5 v0 hr
      dsimp only [array_each_c1_a743_l1] at hr
      try dsimp only
      refine wa_ T (g:=?_)
      rcases ifs hr with ⟨h4,hr⟩|⟨h4,hr⟩
      · have T:=an h4 T
        refine wA T (g:=?_)
        obtain ⟨v8,h5,hr⟩:=bs hr
        apply TO.cal (wn T) rfl goFn144 (array_task_check_c2_a037_spec h5) rfl rfl rfl
        repeat exact sd T
        refine wa_ T (g:=?_)
        rcases ifs hr with ⟨h6,hr⟩|⟨h6,hr⟩
        · have T:=an h6 T
          refine wa_ T (g:=?_)
          cases hr
          refine ⟨rfl,?_⟩
          exact wk_ T [] rfl .nil
        · have T:=an h6 T
          refine wa_ T (g:=?_)
          cases hr
          refine ⟨rfl,?_⟩
          exact wk_ T [] rfl .nil
      · have T:=an h4 T
        refine wa_ T (g:=?_)
        cases hr
        refine ⟨rfl,?_⟩
        exact wk_ T [] rfl .nil
    · intro e h;rcases e with _|e<;>cases h
    · try dsimp only
      rcases v9 with v10|_
      · try dsimp only at hr
        try dsimp only
        refine wa_ T (g:=?_)
        cases hr
        refine ⟨.inr rfl,_,(ry T),?_⟩
        exact wr [] rfl .nil
      · try dsimp only at hr
        try dsimp only
        refine wa_ T (g:=?_)
        cases hr
        refine ⟨.inr rfl,_,(ry T),?_⟩
        exact wr [] rfl .nil
    · try dsimp only
      exact wr [] rfl .nil
  rfl

end Go.Rex

namespace Go.Rex
open Go.Proofs
open Go Go.Rex Go.RowKit
set_option maxRecDepth 100000
set_option maxHeartbeats 1000000
def y18:=an @ag121 <| an @cs121 <| an @ok121 <| an @so182 <| an @wi64_0a1 <| an @wi64_1a1 <| an @wi64_2a1 <| @wi64_3a1
theorem array_firstError_f6a9_spec {v1 : Int} {v2 : Int} {v3 : (List (List Int))} {v4 : Int} {v5 : Int} {v6 : (List (List Int))} {v7 : Int} {v8 : Bool} {v9 : Int} {v10 : Int} (hr : array_firstError_f6a9 v1 v2 v3 v4 v5 v6 v7 v8 v9 = some (v10)) : Spec (lim Tryz.prog) 63 [.list 1 [[.func 123 [] [.fptr true [.v (.int .i64 v1)] 0,.fptr true [.v (.int .i64 v2)] 0]],[.func 141 [] [.fptr true [.list 1 (v3.map e_Li_),.v (.int .i64 v4)] 0]],[.func 168 [] [.fptr true [.v (.int .i64 v5)] 0,.fptr true [.func 144 [] [.fptr true [.list 1 (v6.map e_Li_),.v (.int .i64 v7)] 0]] 0]],[.func 126 [] [.fptr true [.v (.bool v8)] 0,.fptr true [.v (.int .i64 v9)] 0]]]] ⟨[.v (.int .i64 v10)],[]⟩:=by
  unfold array_firstError_f6a9 at hr
  have T:=an y18 <| @e_Li_.eq_1
  apply Spec.fn Tryz.func63 rfl
  focus (simp [Tryz.f63]<;>exact rfl)
  focus
    refine wc_ T (g:=?_)
    refine TX.unroll ?_
    repeat (first|(with_reducible first|refine mv ?_|refine TO.nil ?_)|((with_reducible first|apply TO.bin|apply TO.ia|apply TO.ld|apply TO.asg|apply TO.mv);(repeat (focus (show _ = _;first|exact k1 rfl|exact k2 rfl|(simp only [zz,y18,e_Li_,Nat.reduceAdd,Nat.reduceMul,Nat.reduceLeDiff,Nat.reduceEqDiff,tindexAddr,z5,Int.reduceToNat,Int.reduceLE,Int.reduceLT,Int.cast_ofNat_Int,tload,rowOf,partT,List.getElem?_map]<;>exact rfl)|exact rfl)));(with_reducible apply TO.here))|((with_reducible apply TX.region);(focus (simp only [zl]<;>exact rfl));(focus rfl);(try dsimp only))|((with_reducible apply TX.cond_true);(focus rfl);(focus (first|rfl|(simp only [z1,zn];done))))|((with_reducible apply TX.cond_false);(focus rfl);(focus (first|rfl|(simp only [z1,zn];done))))|fail)
    obtain ⟨v11,h1,hr⟩:=bs hr
    apply TO.cal (wn T) rfl goFn123 (array_counted_c1_b585_spec h1) rfl rfl rfl
    repeat exact sd T
    refine wa_ T (g:=?_)
    rcases ifs hr with ⟨h2,hr⟩|⟨h2,hr⟩
    · have T:=an h2 T
      refine wa_ T (g:=?_)
      cases hr
      refine ⟨.inr rfl,_,(ry T),?_⟩
      exact wk_ T [] rfl .nil
    · have T:=an h2 T
      refine wa_ T (g:=?_)
      refine TX.unroll ?_
      repeat (first|(with_reducible first|refine mv ?_|refine TO.nil ?_)|((with_reducible first|apply TO.bin|apply TO.ia|apply TO.ld|apply TO.asg|apply TO.mv);(repeat (focus (show _ = _;first|exact k1 rfl|exact k2 rfl|(simp only [zz,y18,e_Li_,Nat.reduceAdd,Nat.reduceMul,Nat.reduceLeDiff,Nat.reduceEqDiff,tindexAddr,z5,Int.reduceToNat,Int.reduceLE,Int.reduceLT,Int.cast_ofNat_Int,tload,rowOf,partT,List.getElem?_map,h2]<;>exact rfl)|exact rfl)));(with_reducible apply TO.here))|((with_reducible apply TX.region);(focus (simp only [zl]<;>exact rfl));(focus rfl);(try dsimp only))|((with_reducible apply TX.cond_true);(focus rfl);(focus (first|rfl|(simp only [z1,zn,h2];done))))|((with_reducible apply TX.cond_false);(focus rfl);(focus (first|rfl|(simp only [z1,zn,h2];done))))|fail)
      obtain ⟨v12,h3,hr⟩:=bs hr
      apply TO.cal (wn T) rfl goFn141 (array_task_check_c1_bdde_spec h3) rfl rfl rfl
      repeat exact sd T
      refine wa_ T (g:=?_)
      rcases ifs hr with ⟨h4,hr⟩|⟨h4,hr⟩
      · have T:=an h4 T
        refine wa_ T (g:=?_)
        cases hr
        refine ⟨.inr rfl,_,(ry T),?_⟩
        exact wk_ T [] rfl .nil
      · have T:=an h4 T
        refine wa_ T (g:=?_)
        refine TX.unroll ?_
        repeat (first|(with_reducible first|refine mv ?_|refine TO.nil ?_)|((with_reducible first|apply TO.bin|apply TO.ia|apply TO.ld|apply TO.asg|apply TO.mv);(repeat (focus (show _ = _;first|exact k1 rfl|exact k2 rfl|(simp only [zz,y18,e_Li_,Nat.reduceAdd,Nat.reduceMul,Nat.reduceLeDiff,Nat.reduceEqDiff,tindexAddr,z5,Int.reduceToNat,Int.reduceLE,Int.reduceLT,Int.cast_ofNat_Int,tload,rowOf,partT,List.getElem?_map,h2,h4]<;>exact rfl)|exact rfl)));(with_reducible apply TO.here))|((with_reducible apply TX.region);(focus (simp only [zl]<;>exact rfl));(focus rfl);(try dsimp only))|((with_reducible apply TX.cond_true);(focus rfl);(focus (first|rfl|(simp only [z1,zn,h2,h4];done))))|((with_reducible apply TX.cond_false);(focus rfl);(focus (first|rfl|(simp only [z1,zn,h2,h4];done))))|fail)
        obtain ⟨v13,h5,hr⟩:=bs hr
        apply TO.cal (wn T) rfl goFn168 (array_each_c1_a743_spec h5) rfl rfl rfl
        repeat exact sd T
        refine wa_ T (g:=?_)
        rcases ifs hr with ⟨h6,hr⟩|⟨h6,hr⟩
        · have T:=an h6 T
          refine wa_ T (g:=?_)
          cases hr
          refine ⟨.inr rfl,_,(ry T),?_⟩
          exact wk_ T [] rfl .nil
        · have T:=an h6 T
          refine wa_ T (g:=?_)
          refine TX.unroll ?_
          repeat (first|(with_reducible first|refine mv ?_|refine TO.nil ?_)|((with_reducible first|apply TO.bin|apply TO.ia|apply TO.ld|apply TO.asg|apply TO.mv);(repeat (focus (show _ = _;first|exact k1 rfl|exact k2 rfl|(simp only [zz,y18,e_Li_,Nat.reduceAdd,Nat.reduceMul,Nat.reduceLeDiff,Nat.reduceEqDiff,tindexAddr,z5,Int.reduceToNat,Int.reduceLE,Int.reduceLT,Int.cast_ofNat_Int,tload,rowOf,partT,List.getElem?_map,h2,h4,h6]<;>exact rfl)|exact rfl)));(with_reducible apply TO.here))|((with_reducible apply TX.region);(focus (simp only [zl]<;>exact rfl));(focus rfl);(try dsimp only))|((with_reducible apply TX.cond_true);(focus rfl);(focus (first|rfl|(simp only [z1,zn,h2,h4,h6];done))))|((with_reducible apply TX.cond_false);(focus rfl);(focus (first|rfl|(simp only [z1,zn,h2,h4,h6];done))))|fail)
          obtain ⟨v14,h7,hr⟩:=bs hr
          apply TO.cal (wn T) rfl goFn126 (array_refuse_c1_11f9_spec h7) rfl rfl rfl
          repeat exact sd T
          refine wa_ T (g:=?_)
          rcases ifs hr with ⟨h8,hr⟩|⟨h8,hr⟩
          · have T:=an h8 T
            refine wa_ T (g:=?_)
            cases hr
            refine ⟨.inr rfl,_,(ry T),?_⟩
            exact wk_ T [] rfl .nil
          · have T:=an h8 T
            refine wa_ T (g:=?_)
            refine TX.unroll ?_
            refine wa_ T (g:=?_)
            cases hr
            refine ⟨.inr rfl,_,(ry T),?_⟩
            exact wk_ T [] rfl .nil
  rfl

end Go.Rex

namespace Go.Rex
open Go.Proofs
open Go Go.Rex Go.RowKit
set_option maxRecDepth 100000
set_option maxHeartbeats 200000
def y19:=an @ag3 <| an @ag77 <| an @cs121 <| an @fd158_0 <| an @fd86_0 <| an @fd86_1 <| an @so182 <| an @so77 <| @zc121
theorem array_task_check_spec {v1 : (List (List Int))} {v2 : Int} {v3 : Int} (hr : array_task_check v1 v2 = some (v3)) : Spec (lim Tryz.prog) 103 [.agg [.list 1 (v1.map e_Li_),.v (.int .i64 v2)]] ⟨[.v (.int .i64 v3)],[]⟩:=by
  unfold array_task_check at hr
  have T:=an y19 <| @e_Li_.eq_1
  apply Spec.fn Tryz.func103 rfl
  focus (simp [Tryz.f103]<;>exact rfl)
  focus
    refine wD T (g:=?_)
    obtain ⟨⟨v4,v5⟩,h1,hr⟩:=bs hr
    try dsimp only at hr
    apply TD.cal (wn T) rfl goFn66 (array_counted_spec h1) rfl rfl rfl
    repeat exact sd T
    refine wC T (g:=?_)
    obtain ⟨⟨v6,v7,v8⟩,h2,hr⟩:=bs hr
    try dsimp only at hr
    apply TD.cal (wn T) rfl goFn143 (array_each_3fc6_spec h2) rfl rfl rfl
    repeat exact sd T
    refine wA T (g:=?_)
    obtain ⟨⟨v9,v10⟩,h3,hr⟩:=bs hr
    try dsimp only at hr
    apply TD.cal (wn T) rfl goFn100 (array_within_spec h3) rfl rfl rfl
    repeat exact sd T
    refine we_ T (g:=?_)
    obtain ⟨v11,h4,hr⟩:=bs hr
    apply TD.cal (wn T) rfl goFn63 (array_firstError_f6a9_spec h4) rfl rfl rfl
    repeat exact sd T
    refine wa_ T (g:=?_)
    cases hr
    refine ⟨.inr rfl,_,(ry T),?_⟩
    exact wr [] rfl .nil
  rfl

end Go.Rex

namespace Go.Rex
open Go.Proofs
open Go Go.Rex Go.RowKit
set_option maxRecDepth 100000
set_option maxHeartbeats 200000
def y20:=an @ag158 <| an @ag87 <| an @cs158 <| an @fd89_1 <| an @ok158 <| @so87
theorem array_task_opened_c1_c1_30d5_spec {v1 : Int} {v2 : (List Int)} {v3 : (List (List Int))} {v4 : Int} {v5 : Int} (hr : array_task_opened_c1_c1_30d5 v1 v2 v3 v4 = some (v5)) : Spec (lim Tryz.prog) 146 [.fptr true [.v (.int .i64 v1),.list 1 (v2.map e_i)] 0,.fptr true [.list 1 (v3.map e_Li_),.v (.int .i64 v4)] 0] ⟨[.v (.int .i64 v5)],[]⟩:=by
  unfold array_task_opened_c1_c1_30d5 at hr
  have T:=an y20 <| an @e_Li_.eq_1 <| @e_i.eq_1
  apply Spec.fn Tryz.func146 rfl
  focus (simp [Tryz.f146]<;>exact rfl)
  focus
    refine wC T (g:=?_)
    obtain ⟨v6,h1,hr⟩:=bs hr
    apply TD.cal (wn T) rfl goFn142 (array_task_columns_spec h1) rfl rfl rfl
    repeat exact sd T
    refine wa_ T (g:=?_)
    obtain ⟨⟨v7,v8⟩,h2,hr⟩:=bs hr
    try dsimp only at hr
    apply TD.cal (wn T) rfl goFn70 (array_refuse_spec h2) rfl rfl rfl
    repeat exact sd T
    refine wa_ T (g:=?_)
    obtain ⟨v9,h3,hr⟩:=bs hr
    apply TD.cal (wn T) rfl goFn126 (array_refuse_c1_11f9_spec h3) rfl rfl rfl
    repeat exact sd T
    refine wa_ T (g:=?_)
    cases hr
    refine ⟨.inr rfl,_,(ry T),?_⟩
    exact wr [] rfl .nil
  rfl

end Go.Rex

namespace Go.Rex
open Go.Proofs
open Go Go.Rex Go.RowKit
set_option maxRecDepth 100000
set_option maxHeartbeats 200000
def y21:=an @ag3 <| an @cs3 <| an @ok3 <| an @so87 <| @wi64_0a1
theorem array_products_spec {v1 : (List Int)} {v2 : (List Int)} {v3 : Int} (hr : array_products v1 v2 = some (v3)) : Spec (lim Tryz.prog) 149 [.list 1 (v1.map e_i),.list 1 (v2.map e_i)] ⟨[.v (.int .i64 v3)],[]⟩:=by
  unfold array_products at hr
  have T:=an y21 <| @e_i.eq_1
  apply Spec.fn Tryz.func149 rfl
  focus (simp [Tryz.f149]<;>exact rfl)
  focus
    refine wc_ T (g:=?_)
    obtain ⟨v11,h7,hr⟩:=bs hr
    refine TX.loopE (step:=array_products_l1 v1 v2) (x:=(0,0)) h7 (fun (v4,v5)=>⟨.junk :: .list 1 (v2.map e_i) :: .junk :: .junk :: .junk :: .v (.int .i64 v4) :: .junk :: .junk :: .list 1 (v1.map e_i) :: .v (.int .i64 (v1.length : Int)) :: .v (.int .i64 v5) :: .junk :: .junk :: .junk :: .junk :: .junk :: .junk :: .junk :: .junk :: .junk :: .junk :: .junk :: .junk :: .junk :: .junk :: [],[]⟩) (fun v8=>(.exit 0,⟨.junk :: .junk :: .junk :: .junk :: .junk :: .v (.int .i64 v8) :: .junk :: .junk :: .junk :: .junk :: .junk :: .junk :: .junk :: .junk :: .junk :: .junk :: .junk :: .junk :: .junk :: .junk :: .junk :: .junk :: .junk :: .junk :: .junk :: [],[]⟩)) ?_ ?_ ?_ ?_
    · rintro ⟨v4,v5⟩ v0 hr
      dsimp only [array_products_l1] at hr
      try dsimp only
      refine wa_ T (g:=?_)
      rcases ifs hr with ⟨h4,hr⟩|⟨h4,hr⟩
      · have T:=an h4 T
        refine wa_ T (g:=?_)
        obtain ⟨v9,h5,hr⟩:=bs hr
        have T:=an (gx e_i h5) T
        refine wA T (g:=?_)
        obtain ⟨v10,h6,hr⟩:=bs hr
        have T:=an (gx e_i h6) T
        refine wA T (g:=?_)
        cases hr
        refine ⟨rfl,?_⟩
        exact wk_ T [] rfl .nil
      · have T:=an h4 T
        refine wa_ T (g:=?_)
        cases hr
        refine ⟨rfl,?_⟩
        exact wk_ T [] rfl .nil
    · intro e h;cases h
    · try dsimp only
      refine wa_ T (g:=?_)
      cases hr
      refine ⟨.inr rfl,_,(ry T),?_⟩
      exact wr [] rfl .nil
    · try dsimp only
      exact wr [] rfl .nil
  rfl

end Go.Rex

namespace Go.Rex
open Go.Proofs
open Go Go.Rex Go.RowKit
set_option maxRecDepth 100000
set_option maxHeartbeats 200000
def y22:=an @ag77 <| an @ag87 <| an @by3 <| an @cs3 <| an @cs87 <| an @fd158_0 <| an @fd86_0 <| an @fd89_1 <| an @ni87 <| an @ok87 <| an @so77 <| an @so87 <| an @zc3 <| @wi64_0a1
theorem array_task_gets_spec {v1 : (List (List Int))} {v2 : Int} {v3 : Int} {v4 : (List Int)} {v5 : (List Int)} (hr : array_task_gets v1 v2 v3 v4 = some (v5)) : Spec (lim Tryz.prog) 106 [.agg [.list 1 (v1.map e_Li_),.v (.int .i64 v2)],.agg [.v (.int .i64 v3),.list 1 (v4.map e_i)]] ⟨[.lsl 0 0 v5.length],[.rows 1 (v5.map e_i)]⟩:=by
  unfold array_task_gets at hr
  have T:=an y22 <| an @e_Li_.eq_1 <| @e_i.eq_1
  apply Spec.fn Tryz.func106 rfl
  focus (simp [Tryz.f106]<;>exact rfl)
  focus
    refine wD T (g:=?_)
    apply TX.vt (α:=Int) e_i 5 1 rfl
    repeat exact sd T
    with_reducible apply TX.here
    refine wa_ T (g:=?_)
    obtain ⟨v15,h9,hr⟩:=bs hr
    refine TX.loopE (step:=array_task_gets_l1 v1 v4) (x:=(([] : List Int),0)) h9 (fun (v6,v7)=>⟨.junk :: .junk :: .junk :: .fptr true [.v (.int .i64 v3),.list 1 (v4.map e_i)] 0 :: .junk :: .lsl 0 0 v6.length :: .junk :: .junk :: .junk :: .junk :: .list 1 (v1.map e_Li_) :: .v (.int .i64 (v1.length : Int)) :: .v (.int .i64 v7) :: .junk :: .junk :: .junk :: .junk :: .junk :: .junk :: .junk :: .junk :: .junk :: .junk :: .junk :: .junk :: [],[.rows 1 (v6.map e_i)]⟩) (fun v11=>(.exit 0,⟨.junk :: .junk :: .junk :: .junk :: .junk :: .lsl 0 0 v11.length :: .junk :: .junk :: .junk :: .junk :: .junk :: .junk :: .junk :: .junk :: .junk :: .junk :: .junk :: .junk :: .junk :: .junk :: .junk :: .junk :: .junk :: .junk :: .junk :: [],[.rows 1 (v11.map e_i)]⟩)) ?_ ?_ ?_ ?_
    · rintro ⟨v6,v7⟩ v0 hr
      dsimp only [array_task_gets_l1] at hr
      try dsimp only
      refine wa_ T (g:=?_)
      rcases ifs hr with ⟨h5,hr⟩|⟨h5,hr⟩
      · have T:=an h5 T
        refine wa_ T (g:=?_)
        obtain ⟨v12,h6,hr⟩:=bs hr
        have h6m:=tidx_map (f:=e_Li_) h6
        have h6l:=getI_lt h6
        try simp only [List.length_set] at h6l
        have h6a:=getI_at h6
        have T:=an h6m T
        have T:=an h6l T
        have T:=an h6a T
        refine wA T (g:=?_)
        obtain ⟨v13,h7,hr⟩:=bs hr
        apply TO.cal (wn T) rfl goFn149 (array_products_spec h7) rfl rfl rfl
        repeat exact sd T
        refine wa_ T (g:=?_)
        apply TO.bm e_i ([v13] : List Int) (wn T) rfl (by simp only [zz,y22,e_Li_,e_i,Nat.reduceAdd,Nat.reduceMul,Nat.reduceLeDiff,Nat.reduceEqDiff,tslice,tparts,h5,h6m,h6l,h6a];exact rfl) rfl
        repeat exact sd T
        refine wa_ T (g:=?_)
        obtain ⟨v14,h8,hr⟩:=bs hr
        apply TO.ap (f:=e_i) (xs:=v6) (ys:=([v13] : List Int)) (wn T) rfl rfl (by first|rfl|simp only [List.length_set]) rfl rfl so87 ni87 zc3 rfl (by rw [by3];exact h8) (fun _=>⟨rfl,rfl,rfl⟩)
        repeat exact sd T
        refine wa_ T (g:=?_)
        cases hr
        refine ⟨rfl,?_⟩
        exact wk_ T [some 0] rfl (.rows .nil rfl rfl)
      · have T:=an h5 T
        refine wa_ T (g:=?_)
        cases hr
        refine ⟨rfl,?_⟩
        exact wk_ T [some 0] rfl (.rows .nil rfl rfl)
    · intro e h;cases h
    · try dsimp only
      refine wa_ T (g:=?_)
      cases hr
      refine ⟨.inr rfl,_,(ry T),?_⟩
      exact wr [some 0] rfl (.rows .nil rfl rfl)
    · try dsimp only
      exact wr [some 0] rfl (.rows .nil rfl rfl)
  rfl

end Go.Rex

namespace Go.Rex
open Go.Proofs
open Go Go.Rex Go.RowKit
set_option maxRecDepth 100000
set_option maxHeartbeats 200000
def y23:=an @ag3 <| an @cs3 <| an @ok3 <| an @so87 <| @wi64_1a1
theorem slices_Max_int_int_spec {v1 : (List Int)} {v2 : Int} (hr : slices_Max_int_int v1 = some (v2)) : Spec (lim Tryz.prog) 148 [.list 1 (v1.map e_i)] ⟨[.v (.int .i64 v2)],[]⟩:=by
  unfold slices_Max_int_int at hr
  have T:=an y23 <| @e_i.eq_1
  apply Spec.fn Tryz.func148 rfl
  focus (simp [Tryz.f148]<;>exact rfl)
  focus
    refine wc_ T (g:=?_)
    rcases ifs hr with ⟨h1,hr⟩|⟨h1,hr⟩
    · cases hr
    · have T:=an h1 T
      refine wa_ T (g:=?_)
      obtain ⟨v3,h2,hr⟩:=bs hr
      have T:=an (gx e_i h2) T
      refine wA T (g:=?_)
      obtain ⟨v9,h7,hr⟩:=bs hr
      refine TX.loopE (step:=slices_Max_int_int_l1 v1) (x:=(v3,1)) h7 (fun (v4,v5)=>⟨.list 1 (v1.map e_i) :: .junk :: .junk :: .v (.int .i64 v4) :: .v (.int .i64 v5) :: .junk :: .junk :: .junk :: .junk :: .junk :: .junk :: .junk :: .junk :: .junk :: .junk :: .junk :: .junk :: .junk :: .junk :: .junk :: .junk :: .junk :: .junk :: .junk :: .junk :: [],[]⟩) (fun v7=>(.exit 0,⟨.junk :: .junk :: .junk :: .v (.int .i64 v7) :: .junk :: .junk :: .junk :: .junk :: .junk :: .junk :: .junk :: .junk :: .junk :: .junk :: .junk :: .junk :: .junk :: .junk :: .junk :: .junk :: .junk :: .junk :: .junk :: .junk :: .junk :: [],[]⟩)) ?_ ?_ ?_ ?_
      · rintro ⟨v4,v5⟩ v0 hr
        dsimp only [slices_Max_int_int_l1] at hr
        try dsimp only
        refine wc_ T (g:=?_)
        rcases ifs hr with ⟨h5,hr⟩|⟨h5,hr⟩
        · have T:=an h5 T
          refine wa_ T (g:=?_)
          obtain ⟨v8,h6,hr⟩:=bs hr
          have T:=an (gx e_i h6) T
          refine wA T (g:=?_)
          apply TO.pop1 (wn T) (pop_max rfl rfl)
          repeat exact sd T
          refine wa_ T (g:=?_)
          cases hr
          refine ⟨rfl,?_⟩
          exact wk_ T [] rfl .nil
        · have T:=an h5 T
          refine wa_ T (g:=?_)
          cases hr
          refine ⟨rfl,?_⟩
          exact wk_ T [] rfl .nil
      · intro e h;cases h
      · try dsimp only
        refine wa_ T (g:=?_)
        cases hr
        refine ⟨.inr rfl,_,(ry T),?_⟩
        exact wk_ T [] rfl .nil
      · try dsimp only
        exact wk_ T [] rfl .nil
  rfl

end Go.Rex

namespace Go.Rex
open Go.Proofs
open Go Go.Rex Go.RowKit
set_option maxRecDepth 100000
set_option maxHeartbeats 200000
def y24:=an @ag158 <| an @ag3 <| an @ag89 <| an @cs158 <| an @cs89 <| an @fd158_0 <| an @fd86_1 <| an @fd89_0 <| an @ok158 <| @ok89
theorem array_task_opened_c1_c2_3b05_spec {v1 : (List (List Int))} {v2 : Int} {v3 : Int} {v4 : (List Int)} {v5 : Int} (hr : array_task_opened_c1_c2_3b05 v1 v2 v3 v4 = some (v5)) : Spec (lim Tryz.prog) 147 [.fptr true [.list 1 (v1.map e_Li_),.v (.int .i64 v2)] 0,.fptr true [.v (.int .i64 v3),.list 1 (v4.map e_i)] 0] ⟨[.v (.int .i64 v5)],[]⟩:=by
  unfold array_task_opened_c1_c2_3b05 at hr
  have T:=an y24 <| an @e_Li_.eq_1 <| @e_i.eq_1
  apply Spec.fn Tryz.func147 rfl
  focus (simp [Tryz.f147]<;>exact rfl)
  focus
    refine wA T (g:=?_)
    obtain ⟨v6,h1,hr⟩:=bs hr
    apply TD.cal (wn T) rfl goFn106 (array_task_gets_spec h1) rfl rfl rfl
    repeat exact sd T
    refine wa_ T (g:=?_)
    obtain ⟨v7,h2,hr⟩:=bs hr
    apply TD.lok (wn T) rfl goFn148 (slices_Max_int_int_spec h2) (vw T) rfl rfl (by simp [clTB,cl,e_iiiii,e_i,e_iiiiiiiii,e_z,e_iii,e_Li_])
    repeat exact sd T
    refine wA T (g:=?_)
    obtain ⟨⟨v8,v9⟩,h3,hr⟩:=bs hr
    try dsimp only at hr
    apply TD.cal (wn T) rfl goFn70 (array_refuse_spec h3) rfl rfl rfl
    repeat exact sd T
    refine wa_ T (g:=?_)
    obtain ⟨v10,h4,hr⟩:=bs hr
    apply TD.cal (wn T) rfl goFn126 (array_refuse_c1_11f9_spec h4) rfl rfl rfl
    repeat exact sd T
    refine wa_ T (g:=?_)
    cases hr
    refine ⟨.inr rfl,_,(ry T),?_⟩
    exact wr [] rfl .nil
  rfl

end Go.Rex

namespace Go.Rex
open Go.Proofs
open Go Go.Rex Go.RowKit
set_option maxRecDepth 100000
set_option maxHeartbeats 1000000
def y25:=an @ag121 <| an @cs121 <| an @ok121 <| an @so182 <| an @wi64_0a1 <| an @wi64_1a1 <| an @wi64_2a1 <| @wi64_3a1
theorem array_firstError_f7c3_spec {v1 : Bool} {v2 : Int} {v3 : Int} {v4 : (List Int)} {v5 : (List (List Int))} {v6 : Int} {v7 : Int} {v8 : (List Int)} {v9 : Int} {v10 : Int} {v11 : (List (List Int))} {v12 : Int} {v13 : Int} {v14 : (List Int)} {v15 : Int} (hr : array_firstError_f7c3 v1 v2 v3 v4 v5 v6 v7 v8 v9 v10 v11 v12 v13 v14 = some (v15)) : Spec (lim Tryz.prog) 63 [.list 1 [[.func 126 [] [.fptr true [.v (.bool v1)] 0,.fptr true [.v (.int .i64 v2)] 0]],[.func 146 [] [.fptr true [.v (.int .i64 v3),.list 1 (v4.map e_i)] 0,.fptr true [.list 1 (v5.map e_Li_),.v (.int .i64 v6)] 0]],[.func 168 [] [.fptr true [.v (.int .i64 v7)] 0,.fptr true [.func 162 [] [.fptr true [.list 1 (v8.map e_i)] 0,.fptr true [.v (.int .i64 v9)] 0,.fptr true [.v (.int .i64 v10)] 0]] 0]],[.func 147 [] [.fptr true [.list 1 (v11.map e_Li_),.v (.int .i64 v12)] 0,.fptr true [.v (.int .i64 v13),.list 1 (v14.map e_i)] 0]]]] ⟨[.v (.int .i64 v15)],[]⟩:=by
  unfold array_firstError_f7c3 at hr
  have T:=an y25 <| an @e_Li_.eq_1 <| @e_i.eq_1
  apply Spec.fn Tryz.func63 rfl
  focus (simp [Tryz.f63]<;>exact rfl)
  focus
    refine wc_ T (g:=?_)
    refine TX.unroll ?_
    repeat (first|(with_reducible first|refine mv ?_|refine TO.nil ?_)|((with_reducible first|apply TO.bin|apply TO.ia|apply TO.ld|apply TO.asg|apply TO.mv);(repeat (focus (show _ = _;first|exact k1 rfl|exact k2 rfl|(simp only [zz,y25,e_Li_,e_i,Nat.reduceAdd,Nat.reduceMul,Nat.reduceLeDiff,Nat.reduceEqDiff,tindexAddr,z5,Int.reduceToNat,Int.reduceLE,Int.reduceLT,Int.cast_ofNat_Int,tload,rowOf,partT,List.getElem?_map]<;>exact rfl)|exact rfl)));(with_reducible apply TO.here))|((with_reducible apply TX.region);(focus (simp only [zl]<;>exact rfl));(focus rfl);(try dsimp only))|((with_reducible apply TX.cond_true);(focus rfl);(focus (first|rfl|(simp only [z1,zn];done))))|((with_reducible apply TX.cond_false);(focus rfl);(focus (first|rfl|(simp only [z1,zn];done))))|fail)
    obtain ⟨v16,h1,hr⟩:=bs hr
    apply TO.cal (wn T) rfl goFn126 (array_refuse_c1_11f9_spec h1) rfl rfl rfl
    repeat exact sd T
    refine wa_ T (g:=?_)
    rcases ifs hr with ⟨h2,hr⟩|⟨h2,hr⟩
    · have T:=an h2 T
      refine wa_ T (g:=?_)
      cases hr
      refine ⟨.inr rfl,_,(ry T),?_⟩
      exact wk_ T [] rfl .nil
    · have T:=an h2 T
      refine wa_ T (g:=?_)
      refine TX.unroll ?_
      repeat (first|(with_reducible first|refine mv ?_|refine TO.nil ?_)|((with_reducible first|apply TO.bin|apply TO.ia|apply TO.ld|apply TO.asg|apply TO.mv);(repeat (focus (show _ = _;first|exact k1 rfl|exact k2 rfl|(simp only [zz,y25,e_Li_,e_i,Nat.reduceAdd,Nat.reduceMul,Nat.reduceLeDiff,Nat.reduceEqDiff,tindexAddr,z5,Int.reduceToNat,Int.reduceLE,Int.reduceLT,Int.cast_ofNat_Int,tload,rowOf,partT,List.getElem?_map,h2]<;>exact rfl)|exact rfl)));(with_reducible apply TO.here))|((with_reducible apply TX.region);(focus (simp only [zl]<;>exact rfl));(focus rfl);(try dsimp only))|((with_reducible apply TX.cond_true);(focus rfl);(focus (first|rfl|(simp only [z1,zn,h2];done))))|((with_reducible apply TX.cond_false);(focus rfl);(focus (first|rfl|(simp only [z1,zn,h2];done))))|fail)
      obtain ⟨v17,h3,hr⟩:=bs hr
      apply TO.cal (wn T) rfl goFn146 (array_task_opened_c1_c1_30d5_spec h3) rfl rfl rfl
      repeat exact sd T
      refine wa_ T (g:=?_)
      rcases ifs hr with ⟨h4,hr⟩|⟨h4,hr⟩
      · have T:=an h4 T
        refine wa_ T (g:=?_)
        cases hr
        refine ⟨.inr rfl,_,(ry T),?_⟩
        exact wk_ T [] rfl .nil
      · have T:=an h4 T
        refine wa_ T (g:=?_)
        refine TX.unroll ?_
        repeat (first|(with_reducible first|refine mv ?_|refine TO.nil ?_)|((with_reducible first|apply TO.bin|apply TO.ia|apply TO.ld|apply TO.asg|apply TO.mv);(repeat (focus (show _ = _;first|exact k1 rfl|exact k2 rfl|(simp only [zz,y25,e_Li_,e_i,Nat.reduceAdd,Nat.reduceMul,Nat.reduceLeDiff,Nat.reduceEqDiff,tindexAddr,z5,Int.reduceToNat,Int.reduceLE,Int.reduceLT,Int.cast_ofNat_Int,tload,rowOf,partT,List.getElem?_map,h2,h4]<;>exact rfl)|exact rfl)));(with_reducible apply TO.here))|((with_reducible apply TX.region);(focus (simp only [zl]<;>exact rfl));(focus rfl);(try dsimp only))|((with_reducible apply TX.cond_true);(focus rfl);(focus (first|rfl|(simp only [z1,zn,h2,h4];done))))|((with_reducible apply TX.cond_false);(focus rfl);(focus (first|rfl|(simp only [z1,zn,h2,h4];done))))|fail)
        obtain ⟨v18,h5,hr⟩:=bs hr
        apply TO.cal (wn T) rfl goFn168 (array_each_c1_6239_spec h5) rfl rfl rfl
        repeat exact sd T
        refine wa_ T (g:=?_)
        rcases ifs hr with ⟨h6,hr⟩|⟨h6,hr⟩
        · have T:=an h6 T
          refine wa_ T (g:=?_)
          cases hr
          refine ⟨.inr rfl,_,(ry T),?_⟩
          exact wk_ T [] rfl .nil
        · have T:=an h6 T
          refine wa_ T (g:=?_)
          refine TX.unroll ?_
          repeat (first|(with_reducible first|refine mv ?_|refine TO.nil ?_)|((with_reducible first|apply TO.bin|apply TO.ia|apply TO.ld|apply TO.asg|apply TO.mv);(repeat (focus (show _ = _;first|exact k1 rfl|exact k2 rfl|(simp only [zz,y25,e_Li_,e_i,Nat.reduceAdd,Nat.reduceMul,Nat.reduceLeDiff,Nat.reduceEqDiff,tindexAddr,z5,Int.reduceToNat,Int.reduceLE,Int.reduceLT,Int.cast_ofNat_Int,tload,rowOf,partT,List.getElem?_map,h2,h4,h6]<;>exact rfl)|exact rfl)));(with_reducible apply TO.here))|((with_reducible apply TX.region);(focus (simp only [zl]<;>exact rfl));(focus rfl);(try dsimp only))|((with_reducible apply TX.cond_true);(focus rfl);(focus (first|rfl|(simp only [z1,zn,h2,h4,h6];done))))|((with_reducible apply TX.cond_false);(focus rfl);(focus (first|rfl|(simp only [z1,zn,h2,h4,h6];done))))|fail)
          obtain ⟨v19,h7,hr⟩:=bs hr
          apply TO.cal (wn T) rfl goFn147 (array_task_opened_c1_c2_3b05_spec h7) rfl rfl rfl
          repeat exact sd T
          refine wa_ T (g:=?_)
          rcases ifs hr with ⟨h8,hr⟩|⟨h8,hr⟩
          · have T:=an h8 T
            refine wa_ T (g:=?_)
            cases hr
            refine ⟨.inr rfl,_,(ry T),?_⟩
            exact wk_ T [] rfl .nil
          · have T:=an h8 T
            refine wa_ T (g:=?_)
            refine TX.unroll ?_
            refine wa_ T (g:=?_)
            cases hr
            refine ⟨.inr rfl,_,(ry T),?_⟩
            exact wk_ T [] rfl .nil
  rfl

end Go.Rex

namespace Go.Rex
open Go.Proofs
open Go Go.Rex Go.RowKit
set_option maxRecDepth 100000
set_option maxHeartbeats 200000
def y26:=an @ag3 <| an @ag87 <| an @cs121 <| an @fd89_0 <| an @fd89_1 <| an @so182 <| @zc121
theorem array_task_opened_c1_30d5_spec {v1 : Int} {v2 : (List Int)} {v3 : (List (List Int))} {v4 : Int} {v5 : Int} (hr : array_task_opened_c1_30d5 v1 v2 v3 v4 = some (v5)) : Spec (lim Tryz.prog) 145 [.fptr true [.v (.int .i64 v1),.list 1 (v2.map e_i)] 0,.fptr true [.list 1 (v3.map e_Li_),.v (.int .i64 v4)] 0] ⟨[.v (.int .i64 v5)],[]⟩:=by
  unfold array_task_opened_c1_30d5 at hr
  have T:=an y26 <| an @e_Li_.eq_1 <| @e_i.eq_1
  apply Spec.fn Tryz.func145 rfl
  focus (simp [Tryz.f145]<;>exact rfl)
  focus
    refine wA T (g:=?_)
    obtain ⟨⟨v6,v7⟩,h1,hr⟩:=bs hr
    try dsimp only at hr
    apply TD.cal (wn T) rfl goFn100 (array_within_spec h1) rfl rfl rfl
    repeat exact sd T
    refine wA T (g:=?_)
    obtain ⟨⟨v8,v9,v10,v11⟩,h2,hr⟩:=bs hr
    try dsimp only at hr
    apply TD.cal (wn T) rfl goFn124 (array_allWithin_spec h2) rfl rfl rfl
    repeat exact sd T
    refine we_ T (g:=?_)
    obtain ⟨v12,h3,hr⟩:=bs hr
    apply TD.cal (wn T) rfl goFn63 (array_firstError_f7c3_spec h3) rfl rfl rfl
    repeat exact sd T
    refine wa_ T (g:=?_)
    cases hr
    refine ⟨.inr rfl,_,(ry T),?_⟩
    exact wr [] rfl .nil
  rfl

end Go.Rex

namespace Go.Rex
open Go.Proofs
open Go Go.Rex Go.RowKit
set_option maxRecDepth 100000
set_option maxHeartbeats 200000
def y27:=an @ag121 <| an @cs121 <| an @ok121 <| an @so182 <| an @wi64_0a1 <| @wi64_1a1
theorem array_firstError_e6a2_spec {v1 : (List (List Int))} {v2 : Int} {v3 : Int} {v4 : (List Int)} {v5 : (List (List Int))} {v6 : Int} {v7 : Int} (hr : array_firstError_e6a2 v1 v2 v3 v4 v5 v6 = some (v7)) : Spec (lim Tryz.prog) 63 [.list 1 [[.func 103 [.agg [.list 1 (v1.map e_Li_),.v (.int .i64 v2)]] []],[.func 145 [] [.fptr true [.v (.int .i64 v3),.list 1 (v4.map e_i)] 0,.fptr true [.list 1 (v5.map e_Li_),.v (.int .i64 v6)] 0]]]] ⟨[.v (.int .i64 v7)],[]⟩:=by
  unfold array_firstError_e6a2 at hr
  have T:=an y27 <| an @e_Li_.eq_1 <| @e_i.eq_1
  apply Spec.fn Tryz.func63 rfl
  focus (simp [Tryz.f63]<;>exact rfl)
  focus
    refine wc_ T (g:=?_)
    refine TX.unroll ?_
    repeat (first|(with_reducible first|refine mv ?_|refine TO.nil ?_)|((with_reducible first|apply TO.bin|apply TO.ia|apply TO.ld|apply TO.asg|apply TO.mv);(repeat (focus (show _ = _;first|exact k1 rfl|exact k2 rfl|(simp only [zz,y27,e_Li_,e_i,Nat.reduceAdd,Nat.reduceMul,Nat.reduceLeDiff,Nat.reduceEqDiff,tindexAddr,z5,Int.reduceToNat,Int.reduceLE,Int.reduceLT,Int.cast_ofNat_Int,tload,rowOf,partT,List.getElem?_map]<;>exact rfl)|exact rfl)));(with_reducible apply TO.here))|((with_reducible apply TX.region);(focus (simp only [zl]<;>exact rfl));(focus rfl);(try dsimp only))|((with_reducible apply TX.cond_true);(focus rfl);(focus (first|rfl|(simp only [z1,zn];done))))|((with_reducible apply TX.cond_false);(focus rfl);(focus (first|rfl|(simp only [z1,zn];done))))|fail)
    obtain ⟨v8,h1,hr⟩:=bs hr
    apply TO.cal (wn T) rfl goFn103 (array_task_check_spec h1) rfl rfl rfl
    repeat exact sd T
    refine wa_ T (g:=?_)
    rcases ifs hr with ⟨h2,hr⟩|⟨h2,hr⟩
    · have T:=an h2 T
      refine wa_ T (g:=?_)
      cases hr
      refine ⟨.inr rfl,_,(ry T),?_⟩
      exact wk_ T [] rfl .nil
    · have T:=an h2 T
      refine wa_ T (g:=?_)
      refine TX.unroll ?_
      repeat (first|(with_reducible first|refine mv ?_|refine TO.nil ?_)|((with_reducible first|apply TO.bin|apply TO.ia|apply TO.ld|apply TO.asg|apply TO.mv);(repeat (focus (show _ = _;first|exact k1 rfl|exact k2 rfl|(simp only [zz,y27,e_Li_,e_i,Nat.reduceAdd,Nat.reduceMul,Nat.reduceLeDiff,Nat.reduceEqDiff,tindexAddr,z5,Int.reduceToNat,Int.reduceLE,Int.reduceLT,Int.cast_ofNat_Int,tload,rowOf,partT,List.getElem?_map,h2]<;>exact rfl)|exact rfl)));(with_reducible apply TO.here))|((with_reducible apply TX.region);(focus (simp only [zl]<;>exact rfl));(focus rfl);(try dsimp only))|((with_reducible apply TX.cond_true);(focus rfl);(focus (first|rfl|(simp only [z1,zn,h2];done))))|((with_reducible apply TX.cond_false);(focus rfl);(focus (first|rfl|(simp only [z1,zn,h2];done))))|fail)
      obtain ⟨v9,h3,hr⟩:=bs hr
      apply TO.cal (wn T) rfl goFn145 (array_task_opened_c1_30d5_spec h3) rfl rfl rfl
      repeat exact sd T
      refine wa_ T (g:=?_)
      rcases ifs hr with ⟨h4,hr⟩|⟨h4,hr⟩
      · have T:=an h4 T
        refine wa_ T (g:=?_)
        cases hr
        refine ⟨.inr rfl,_,(ry T),?_⟩
        exact wk_ T [] rfl .nil
      · have T:=an h4 T
        refine wa_ T (g:=?_)
        refine TX.unroll ?_
        refine wa_ T (g:=?_)
        cases hr
        refine ⟨.inr rfl,_,(ry T),?_⟩
        exact wk_ T [] rfl .nil
  rfl

end Go.Rex

namespace Go.Rex
open Go.Proofs
open Go Go.Rex Go.RowKit
set_option maxRecDepth 100000
set_option maxHeartbeats 200000
def y28:=an @ag3 <| an @cs3 <| an @ok3 <| an @so87 <| @wi64_1a1
theorem slices_Min_int_int_spec {v1 : (List Int)} {v2 : Int} (hr : slices_Min_int_int v1 = some (v2)) : Spec (lim Tryz.prog) 105 [.list 1 (v1.map e_i)] ⟨[.v (.int .i64 v2)],[]⟩:=by
  unfold slices_Min_int_int at hr
  have T:=an y28 <| @e_i.eq_1
  apply Spec.fn Tryz.func105 rfl
  focus (simp [Tryz.f105]<;>exact rfl)
  focus
    refine wc_ T (g:=?_)
    rcases ifs hr with ⟨h1,hr⟩|⟨h1,hr⟩
    · cases hr
    · have T:=an h1 T
      refine wa_ T (g:=?_)
      obtain ⟨v3,h2,hr⟩:=bs hr
      have T:=an (gx e_i h2) T
      refine wA T (g:=?_)
      obtain ⟨v9,h7,hr⟩:=bs hr
      refine TX.loopE (step:=slices_Min_int_int_l1 v1) (x:=(v3,1)) h7 (fun (v4,v5)=>⟨.list 1 (v1.map e_i) :: .junk :: .junk :: .v (.int .i64 v4) :: .v (.int .i64 v5) :: .junk :: .junk :: .junk :: .junk :: .junk :: .junk :: .junk :: .junk :: .junk :: .junk :: .junk :: .junk :: .junk :: .junk :: .junk :: .junk :: .junk :: .junk :: .junk :: .junk :: [],[]⟩) (fun v7=>(.exit 0,⟨.junk :: .junk :: .junk :: .v (.int .i64 v7) :: .junk :: .junk :: .junk :: .junk :: .junk :: .junk :: .junk :: .junk :: .junk :: .junk :: .junk :: .junk :: .junk :: .junk :: .junk :: .junk :: .junk :: .junk :: .junk :: .junk :: .junk :: [],[]⟩)) ?_ ?_ ?_ ?_
      · rintro ⟨v4,v5⟩ v0 hr
        dsimp only [slices_Min_int_int_l1] at hr
        try dsimp only
        refine wc_ T (g:=?_)
        rcases ifs hr with ⟨h5,hr⟩|⟨h5,hr⟩
        · have T:=an h5 T
          refine wa_ T (g:=?_)
          obtain ⟨v8,h6,hr⟩:=bs hr
          have T:=an (gx e_i h6) T
          refine wA T (g:=?_)
          apply TO.pop1 (wn T) (pop_min rfl rfl)
          repeat exact sd T
          refine wa_ T (g:=?_)
          cases hr
          refine ⟨rfl,?_⟩
          exact wk_ T [] rfl .nil
        · have T:=an h5 T
          refine wa_ T (g:=?_)
          cases hr
          refine ⟨rfl,?_⟩
          exact wk_ T [] rfl .nil
      · intro e h;cases h
      · try dsimp only
        refine wa_ T (g:=?_)
        cases hr
        refine ⟨.inr rfl,_,(ry T),?_⟩
        exact wk_ T [] rfl .nil
      · try dsimp only
        exact wk_ T [] rfl .nil
  rfl

end Go.Rex

namespace Go.Rex
open Go.Proofs
open Go Go.Rex Go.RowKit
set_option maxRecDepth 100000
set_option maxHeartbeats 200000
def y29:=an @ag3 <| an @ag96 <| an @ar96 <| an @cs3 <| an @cs96 <| an @fd163_0 <| an @fd163_1 <| an @ok3 <| an @ok96 <| an @st96 <| @zc96
theorem array_fraction_lowest_spec {v1 : Int} {v2 : Int} {v3 : Int} {v4 : Int} (hr : array_fraction_lowest v1 v2 = some (v3,v4)) : Spec (lim Tryz.prog) 107 [.agg [.v (.int .i64 v1),.v (.int .i64 v2)]] ⟨[.agg [.v (.int .i64 v3),.v (.int .i64 v4)]],[]⟩:=by
  unfold array_fraction_lowest at hr
  have T:=y29
  apply Spec.fn Tryz.func107 rfl
  focus (simp [Tryz.f107]<;>exact rfl)
  focus
    refine wB T (g:=?_)
    obtain ⟨v8,h5,hr⟩:=bs hr
    refine TX.loopE (step:=array_fraction_lowest_l1) (x:=(v2,v1)) h5 (fun (v5,v6)=>⟨.junk :: .fptr true [.v (.int .i64 v1),.v (.int .i64 v2)] 0 :: .lptr 0 0 0 :: .v (.int .i64 v5) :: .v (.int .i64 v6) :: .junk :: .junk :: .junk :: .junk :: .junk :: .junk :: .junk :: .junk :: .junk :: .junk :: .junk :: .junk :: .junk :: .junk :: .junk :: .junk :: .junk :: .junk :: .junk :: [],[.var [.v (.int .i64 0),.v (.int .i64 0)]]⟩) (fun v7=>(.exit 0,⟨.junk :: .fptr true [.v (.int .i64 v1),.v (.int .i64 v2)] 0 :: .lptr 0 0 0 :: .v (.int .i64 v7) :: .junk :: .junk :: .junk :: .junk :: .junk :: .junk :: .junk :: .junk :: .junk :: .junk :: .junk :: .junk :: .junk :: .junk :: .junk :: .junk :: .junk :: .junk :: .junk :: .junk :: [],[.var [.v (.int .i64 0),.v (.int .i64 0)]]⟩)) ?_ ?_ ?_ ?_
    · rintro ⟨v5,v6⟩ v0 hr
      dsimp only [array_fraction_lowest_l1] at hr
      try dsimp only
      refine wa_ T (g:=?_)
      rcases ifs hr with ⟨h3,hr⟩|⟨h3,hr⟩
      · have T:=an h3 T
        refine wa_ T (g:=?_)
        by_cases h4 : v6 = 0
        · rw [if_pos h4] at hr
          cases hr
        · rw [if_neg h4] at hr
          have T:=an h4 T
          refine wa_ T (g:=?_)
          cases hr
          refine ⟨rfl,?_⟩
          exact wk_ T [some 0] rfl (rv .nil rfl)
      · have T:=an h3 T
        refine wa_ T (g:=?_)
        cases hr
        refine ⟨rfl,?_⟩
        exact wk_ T [some 0] rfl (rv .nil rfl)
    · intro e h;cases h
    · try dsimp only
      refine wA T (g:=?_)
      by_cases h6 : v8 = 0
      · rw [if_pos h6] at hr
        cases hr
      · rw [if_neg h6] at hr
        have T:=an h6 T
        refine wA T (g:=?_)
        cases hr
        refine ⟨.inr rfl,_,(ry T),?_⟩
        exact wr [] rfl .nil
    · try dsimp only
      exact wr [some 0] rfl (rv .nil rfl)
  rfl

end Go.Rex

namespace Go.Rex
open Go.Proofs
open Go Go.Rex Go.RowKit
set_option maxRecDepth 100000
set_option maxHeartbeats 200000
def y30:=an @ag158 <| an @ag3 <| an @ag86 <| an @ag89 <| an @ag96 <| an @ar96 <| an @cs121 <| an @cs158 <| an @cs3 <| an @cs86 <| an @cs89 <| an @cs96 <| an @fd89_0 <| an @ok158 <| an @ok3 <| an @ok86 <| an @ok89 <| an @ok96 <| an @so182 <| an @st158 <| an @st163 <| an @st96 <| an @zc121 <| an @zc158 <| an @zc163 <| @zc96
theorem array_CheckOpen_spec {v1 : (List (List Int))} {v2 : Int} {v3 : Int} {v4 : (List Int)} {v5 : Int} {v6 : Int} {v7 : Int} (hr : array_CheckOpen v1 v2 v3 v4 = some (v5,v6,v7)) : Spec (lim Tryz.prog) 49 [.agg [.list 1 (v1.map e_Li_),.v (.int .i64 v2)],.agg [.v (.int .i64 v3),.list 1 (v4.map e_i)]] ⟨[.tuple [.agg [.v (.int .i64 v5),.v (.int .i64 v6)],.v (.int .i64 v7)]],[]⟩:=by
  unfold array_CheckOpen at hr
  have T:=an y30 <| an @e_Li_.eq_1 <| @e_i.eq_1
  apply Spec.fn Tryz.func49 rfl
  focus (simp [Tryz.f49]<;>exact rfl)
  focus
    refine wB T (g:=?_)
    obtain ⟨⟨v8,v9,v10,v11⟩,h1,hr⟩:=bs hr
    try dsimp only at hr
    apply TD.cal (wn T) rfl goFn104 (array_task_opened_spec h1) rfl rfl rfl
    repeat exact sd T
    refine we_ T (g:=?_)
    obtain ⟨v12,h2,hr⟩:=bs hr
    apply TD.cal (wn T) rfl goFn63 (array_firstError_e6a2_spec h2) rfl rfl rfl
    repeat exact sd T
    refine wa_ T (g:=?_)
    rcases ifs hr with ⟨h3,hr⟩|⟨h3,hr⟩
    · have T:=an h3 T
      refine wa_ T (g:=?_)
      cases hr
      refine ⟨.inr rfl,_,(ry T),?_⟩
      exact wk_ T [] rfl .nil
    · have T:=an h3 T
      refine wA T (g:=?_)
      obtain ⟨v13,h4,hr⟩:=bs hr
      apply TD.cal (wn T) rfl goFn106 (array_task_gets_spec h4) rfl rfl rfl
      repeat exact sd T
      refine wa_ T (g:=?_)
      obtain ⟨v14,h5,hr⟩:=bs hr
      apply TD.lok (wn T) rfl goFn105 (slices_Min_int_int_spec h5) (vw T) rfl rfl (by simp [clTB,cl,e_iiiii,e_i,e_iiiiiiiii,e_z,e_iii,e_Li_])
      repeat exact sd T
      refine wA T (g:=?_)
      obtain ⟨⟨v15,v16⟩,h6,hr⟩:=bs hr
      try dsimp only at hr
      apply TD.cal (wn T) rfl goFn107 (array_fraction_lowest_spec h6) rfl rfl rfl
      repeat exact sd T
      refine wa_ T (g:=?_)
      cases hr
      refine ⟨.inr rfl,_,(ry T),?_⟩
      exact wk_ T [] rfl .nil
  rfl

end Go.Rex

namespace Go.Rex
open Go.Proofs
open Go Go.Rex Go.RowKit
set_option maxRecDepth 100000
set_option maxHeartbeats 200000
def y31:=an @ag87 <| an @ag91 <| an @cs87 <| an @cs91 <| an @fd91_1 <| an @fd91_2 <| an @fd91_3 <| an @ok87 <| an @ok91 <| @zc91
theorem ref07_CopyWeights_spec {v1 : Int} {v2 : (List Int)} {v3 : (List Int)} {v4 : (List Int)} {v5 : Int} {v6 : (List Int)} {v7 : (List Int)} {v8 : (List Int)} (hr : ref07_CopyWeights v1 v2 v3 v4 = some (v5,v6,v7,v8)) : Spec (lim Tryz.prog) 53 [.agg [.v (.int .i64 v1),.list 1 (v2.map e_i),.list 1 (v3.map e_i),.list 1 (v4.map e_i)]] ⟨[.agg [.v (.int .i64 v5),.lsl 0 0 v6.length,.lsl 1 0 v7.length,.lsl 2 0 v8.length]],[.rows 1 (v6.map e_i),.rows 1 (v7.map e_i),.rows 1 (v8.map e_i)]⟩:=by
  unfold ref07_CopyWeights at hr
  have T:=an y31 <| @e_i.eq_1
  apply Spec.fn Tryz.func53 rfl
  focus (simp [Tryz.f53]<;>exact rfl)
  focus
    repeat (first|(with_reducible first|refine mv ?_|refine TO.nil ?_)|((with_reducible first|apply TO.bx (dst:=some 1)|apply TO.al);(repeat (focus (show _ = _;first|exact k1 rfl|exact k2 rfl|(simp only [zz,y31,e_i,Nat.reduceAdd,Nat.reduceMul,Nat.reduceLeDiff,Nat.reduceEqDiff]<;>exact rfl)|exact rfl)));(with_reducible apply TO.here))|((with_reducible apply TX.region);(focus (simp only [zl]<;>exact rfl));(focus rfl);(try dsimp only))|with_reducible refine TD.nil ?_|((with_reducible first|apply TD.fa|apply TD.ld );(repeat (focus (show _ = _;first|exact k1 rfl|exact k2 rfl|(simp only [zz,y31,e_i,Nat.reduceAdd,Nat.reduceMul,Nat.reduceLeDiff,Nat.reduceEqDiff,tfieldAddr,tload,rowOf,partT,List.getElem?_map]<;>exact rfl)|exact rfl)));(with_reducible refine TD.here ?_))|((with_reducible apply TX.drawn);(focus decide +kernel);(focus (simp only [zl]<;>exact rfl));(focus exact rfl);(try dsimp only))|fail)
    obtain ⟨v9,h1,hr⟩:=bs hr
    apply TD.cal (wn T) rfl goFn109 (base_CopyInts_spec h1) rfl rfl rfl
    repeat exact sd T
    refine wA T (g:=?_)
    obtain ⟨v10,h2,hr⟩:=bs hr
    apply TD.cal (wn T) rfl goFn109 (base_CopyInts_spec h2) rfl rfl rfl
    repeat exact sd T
    refine wA T (g:=?_)
    obtain ⟨v11,h3,hr⟩:=bs hr
    apply TD.cal (wn T) rfl goFn109 (base_CopyInts_spec h3) rfl rfl rfl
    repeat exact sd T
    refine wA T (g:=?_)
    cases hr
    refine ⟨.inr rfl,_,(ry T),?_⟩
    exact wr [some 2,some 3,some 4] rfl (.rows (.rows (.rows .nil rfl rfl) rfl rfl) rfl rfl)
  rfl

end Go.Rex

namespace Go.Rex
open Go.Proofs
open Go Go.Rex Go.RowKit
set_option maxRecDepth 100000
set_option maxHeartbeats 200000
theorem array_task_weighed_spec {v1 : (List (List Int))} {v2 : Int} {v3 : Int} {v4 : (List Int)} {v5 : (List Int)} {v6 : (List Int)} {v7 : (List (List Int))} {v8 : Int} {v9 : Int} {v10 : (List Int)} {v11 : (List Int)} {v12 : (List Int)} (hr : array_task_weighed v1 v2 v3 v4 v5 v6 = some (v7,v8,v9,v10,v11,v12)) : Spec (lim Tryz.prog) 110 [.agg [.list 1 (v1.map e_Li_),.v (.int .i64 v2)],.agg [.v (.int .i64 v3),.list 1 (v4.map e_i),.list 1 (v5.map e_i),.list 1 (v6.map e_i)]] ⟨[.func 150 [] [.fptr true [.list 1 (v7.map e_Li_),.v (.int .i64 v8)] 0,.fptr true [.v (.int .i64 v9),.list 1 (v10.map e_i),.list 1 (v11.map e_i),.list 1 (v12.map e_i)] 0]],[]⟩:=by
  unfold array_task_weighed at hr
  have T:=an @e_Li_.eq_1 <| @e_i.eq_1
  apply Spec.fn Tryz.func110 rfl
  focus (simp [Tryz.f110]<;>exact rfl)
  focus
    refine wb_ T (g:=?_)
    cases hr
    refine ⟨.inr rfl,_,(ry T),?_⟩
    exact wr [] rfl .nil
  rfl

end Go.Rex

namespace Go.Rex
open Go.Proofs
open Go Go.Rex Go.RowKit
set_option maxRecDepth 100000
set_option maxHeartbeats 1000000
def y32:=an @ag158 <| an @ag3 <| an @ag77 <| an @ag87 <| an @by3 <| an @cs158 <| an @cs3 <| an @cs87 <| an @fd158_0 <| an @fd86_0 <| an @fd91_0 <| an @fd91_1 <| an @fd91_2 <| an @fd91_3 <| an @ok158 <| an @ok3 <| an @ok87 <| an @so77 <| an @so87 <| an @zc3 <| @wi64_0a1
theorem array_task_proves_spec {v1 : (List (List Int))} {v2 : Int} {v3 : Int} {v4 : (List Int)} {v5 : (List Int)} {v6 : (List Int)} {v7 : Bool} (hr : array_task_proves v1 v2 v3 v4 v5 v6 = some (v7)) : Spec (lim Tryz.prog) 152 [.agg [.list 1 (v1.map e_Li_),.v (.int .i64 v2)],.agg [.v (.int .i64 v3),.list 1 (v4.map e_i),.list 1 (v5.map e_i),.list 1 (v6.map e_i)]] ⟨[.v (.bool v7)],[]⟩:=by
  unfold array_task_proves at hr
  have T:=an y32 <| an @e_Li_.eq_1 <| @e_i.eq_1
  apply Spec.fn Tryz.func152 rfl
  focus (simp [Tryz.f152]<;>exact rfl)
  focus
    refine wB T (g:=?_)
    obtain ⟨v8,h1,hr⟩:=bs hr
    apply TO.cal (wn T) rfl goFn142 (array_task_columns_spec h1) rfl rfl rfl
    repeat exact sd T
    refine wa_ T (g:=?_)
    obtain ⟨v9,h2,hr⟩:=bs hr
    apply TO.mk e_i h2 (wn T) rfl rfl so87 zc3 by3 rfl rfl rfl
    repeat exact sd T
    refine wC T (g:=?_)
    obtain ⟨⟨v39,v40⟩,h27,hr⟩:=bs hr
    try dsimp only at hr
    refine TX.loopE (step:=array_task_proves_l1 v1 v4 v5) (x:=(v3,v9,0)) h27 (fun (v10,v11,v12)=>⟨.junk :: .junk :: .junk :: .fptr true [.v (.int .i64 v3),.list 1 (v4.map e_i),.list 1 (v5.map e_i),.list 1 (v6.map e_i)] 0 :: .junk :: .v (.int .i64 v10) :: .lsl 0 0 v11.length :: .junk :: .junk :: .junk :: .junk :: .junk :: .junk :: .junk :: .junk :: .junk :: .junk :: .junk :: .junk :: .junk :: .list 1 (v1.map e_Li_) :: .v (.int .i64 (v1.length : Int)) :: .v (.int .i64 v12) :: .junk :: .junk :: .junk :: .junk :: .junk :: .junk :: .junk :: .junk :: .junk :: .junk :: .junk :: .junk :: .junk :: .junk :: .junk :: .junk :: .junk :: .junk :: .junk :: .junk :: .junk :: .junk :: .junk :: .junk :: .junk :: .junk :: .junk :: .junk :: .junk :: .junk :: .junk :: .junk :: .junk :: .junk :: .junk :: .junk :: .junk :: .junk :: .junk :: .junk :: .junk :: .junk :: .junk :: .junk :: .junk :: .junk :: .junk :: .junk :: .junk :: .junk :: .junk :: .junk :: .junk :: .junk :: .junk :: .junk :: [],[.rows 1 (v11.map e_i)]⟩) (fun (v25,v26)=>(.exit 0,⟨.junk :: .junk :: .junk :: .fptr true [.v (.int .i64 v3),.list 1 (v4.map e_i),.list 1 (v5.map e_i),.list 1 (v6.map e_i)] 0 :: .junk :: .v (.int .i64 v25) :: .lsl 0 0 v26.length :: .junk :: .junk :: .junk :: .junk :: .junk :: .junk :: .junk :: .junk :: .junk :: .junk :: .junk :: .junk :: .junk :: .junk :: .junk :: .junk :: .junk :: .junk :: .junk :: .junk :: .junk :: .junk :: .junk :: .junk :: .junk :: .junk :: .junk :: .junk :: .junk :: .junk :: .junk :: .junk :: .junk :: .junk :: .junk :: .junk :: .junk :: .junk :: .junk :: .junk :: .junk :: .junk :: .junk :: .junk :: .junk :: .junk :: .junk :: .junk :: .junk :: .junk :: .junk :: .junk :: .junk :: .junk :: .junk :: .junk :: .junk :: .junk :: .junk :: .junk :: .junk :: .junk :: .junk :: .junk :: .junk :: .junk :: .junk :: .junk :: .junk :: .junk :: .junk :: .junk :: [],[.rows 1 (v26.map e_i)]⟩)) ?_ ?_ ?_ ?_
    · rintro ⟨v10,v11,v12⟩ v0 hr
      dsimp only [array_task_proves_l1] at hr
      try dsimp only
      refine wa_ T (g:=?_)
      rcases ifs hr with ⟨h15,hr⟩|⟨h15,hr⟩
      · have T:=an h15 T
        refine wa_ T (g:=?_)
        obtain ⟨v27,h16,hr⟩:=bs hr
        have T:=an (gx e_Li_ h16) T
        refine wA T (g:=?_)
        obtain ⟨v28,h17,hr⟩:=bs hr
        have T:=an (gx e_i h17) T
        refine wC T (g:=?_)
        obtain ⟨v38,h26,hr⟩:=bs hr
        refine TX.loopE (step:=array_task_proves_l2 v5 v12 v27 v28) (x:=(v11,0)) h26 (fun (v29,v30)=>⟨.junk :: .junk :: .junk :: .fptr true [.v (.int .i64 v3),.list 1 (v4.map e_i),.list 1 (v5.map e_i),.list 1 (v6.map e_i)] 0 :: .junk :: .v (.int .i64 (IntKind.i64.wrap (v10 - v28))) :: .lsl 0 0 v29.length :: .v (.int .i64 v12) :: .junk :: .junk :: .junk :: .junk :: .junk :: .junk :: .junk :: .junk :: .junk :: .junk :: .junk :: .junk :: .list 1 (v1.map e_Li_) :: .v (.int .i64 (v1.length : Int)) :: .v (.int .i64 v12) :: .junk :: .junk :: .junk :: .junk :: .junk :: .junk :: .junk :: .junk :: .junk :: .junk :: .junk :: .list 1 (v27.map e_i) :: .v (.int .i64 (v27.length : Int)) :: .v (.int .i64 v30) :: .junk :: .junk :: .junk :: .junk :: .junk :: .junk :: .junk :: .junk :: .junk :: .junk :: .junk :: .junk :: .junk :: .junk :: .junk :: .junk :: .junk :: .junk :: .junk :: .junk :: .junk :: .junk :: .junk :: .junk :: .junk :: .junk :: .junk :: .junk :: .junk :: .junk :: .junk :: .junk :: .junk :: .junk :: .junk :: .junk :: .junk :: .junk :: .junk :: .junk :: .junk :: .junk :: [],[.rows 1 (v29.map e_i)]⟩) (fun v34=>(.exit 2,⟨.junk :: .junk :: .junk :: .fptr true [.v (.int .i64 v3),.list 1 (v4.map e_i),.list 1 (v5.map e_i),.list 1 (v6.map e_i)] 0 :: .junk :: .v (.int .i64 (IntKind.i64.wrap (v10 - v28))) :: .lsl 0 0 v34.length :: .junk :: .junk :: .junk :: .junk :: .junk :: .junk :: .junk :: .junk :: .junk :: .junk :: .junk :: .junk :: .junk :: .list 1 (v1.map e_Li_) :: .v (.int .i64 (v1.length : Int)) :: .v (.int .i64 v12) :: .junk :: .junk :: .junk :: .junk :: .junk :: .junk :: .junk :: .junk :: .junk :: .junk :: .junk :: .junk :: .junk :: .junk :: .junk :: .junk :: .junk :: .junk :: .junk :: .junk :: .junk :: .junk :: .junk :: .junk :: .junk :: .junk :: .junk :: .junk :: .junk :: .junk :: .junk :: .junk :: .junk :: .junk :: .junk :: .junk :: .junk :: .junk :: .junk :: .junk :: .junk :: .junk :: .junk :: .junk :: .junk :: .junk :: .junk :: .junk :: .junk :: .junk :: .junk :: .junk :: .junk :: .junk :: .junk :: .junk :: [],[.rows 1 (v34.map e_i)]⟩)) ?_ ?_ ?_ ?_
        · rintro ⟨v29,v30⟩ v0 hr
          dsimp only [array_task_proves_l2] at hr
          try dsimp only
          refine wa_ T (g:=?_)
          rcases ifs hr with ⟨h22,hr⟩|⟨h22,hr⟩
          · have T:=an h22 T
            refine wa_ T (g:=?_)
            obtain ⟨v35,h23,hr⟩:=bs hr
            have T:=an (gx e_i h23) T
            refine wA T (g:=?_)
            obtain ⟨v36,h24,hr⟩:=bs hr
            have h24m:=tidx_map (f:=e_i) h24
            have h24l:=getI_lt h24
            try simp only [List.length_set] at h24l
            have h24a:=getI_at h24
            have T:=an h24m T
            have T:=an h24l T
            have T:=an h24a T
            refine wA T (g:=?_)
            obtain ⟨v37,h25,hr⟩:=bs hr
            have T:=an (gx e_i h25) T
            refine wA T (g:=?_)
            apply TD.sr e_i v29 v36 (IntKind.i64.wrap (v36 + (IntKind.i64.wrap ((IntKind.i64.wrap (v28 - v37)) * v35)))) h24a (wn T) rfl rfl rfl rfl rfl ok3 (by rw [cs3];rfl) rfl rfl rfl rfl rfl
            repeat exact sd T
            refine wa_ T (g:=?_)
            cases hr
            refine ⟨rfl,?_⟩
            exact wk_ T [some 0] rfl (.rows .nil rfl rfl)
          · have T:=an h22 T
            refine wa_ T (g:=?_)
            cases hr
            refine ⟨rfl,?_⟩
            exact wk_ T [some 0] rfl (.rows .nil rfl rfl)
        · intro e h;cases h
        · try dsimp only
          refine wa_ T (g:=?_)
          cases hr
          refine ⟨rfl,?_⟩
          exact wk_ T [some 0] rfl (.rows .nil rfl rfl)
        · try dsimp only
          exact wk_ T [some 0] rfl (.rows .nil rfl rfl)
      · have T:=an h15 T
        refine wa_ T (g:=?_)
        cases hr
        refine ⟨rfl,?_⟩
        exact wk_ T [some 0] rfl (.rows .nil rfl rfl)
    · intro e h;cases h
    · try dsimp only
      refine wc_ T (g:=?_)
      obtain ⟨v46,h36,hr⟩:=bs hr
      refine TX.loopE (step:=array_task_proves_l3 v6 v40) (x:=0) h36 (fun v41=>⟨.junk :: .junk :: .junk :: .fptr true [.v (.int .i64 v3),.list 1 (v4.map e_i),.list 1 (v5.map e_i),.list 1 (v6.map e_i)] 0 :: .junk :: .v (.int .i64 v39) :: .junk :: .junk :: .junk :: .junk :: .junk :: .junk :: .junk :: .junk :: .junk :: .junk :: .junk :: .junk :: .junk :: .junk :: .junk :: .junk :: .junk :: .junk :: .junk :: .junk :: .junk :: .junk :: .junk :: .junk :: .junk :: .junk :: .junk :: .junk :: .junk :: .junk :: .junk :: .junk :: .junk :: .junk :: .junk :: .junk :: .junk :: .junk :: .junk :: .junk :: .junk :: .junk :: .junk :: .junk :: .junk :: .junk :: .junk :: .junk :: .junk :: .junk :: .junk :: .junk :: .junk :: .junk :: .junk :: .junk :: .lsl 0 0 v40.length :: .v (.int .i64 (v40.length : Int)) :: .v (.int .i64 v41) :: .junk :: .junk :: .junk :: .junk :: .junk :: .junk :: .junk :: .junk :: .junk :: .junk :: .junk :: .junk :: .junk :: .junk :: [],[.rows 1 (v40.map e_i)]⟩) (fun e=>match e with|(.inl _)=>(.ret,⟨.junk :: .junk :: .junk :: .junk :: .v (.bool false) :: .junk :: .junk :: .junk :: .junk :: .junk :: .junk :: .junk :: .junk :: .junk :: .junk :: .junk :: .junk :: .junk :: .junk :: .junk :: .junk :: .junk :: .junk :: .junk :: .junk :: .junk :: .junk :: .junk :: .junk :: .junk :: .junk :: .junk :: .junk :: .junk :: .junk :: .junk :: .junk :: .junk :: .junk :: .junk :: .junk :: .junk :: .junk :: .junk :: .junk :: .junk :: .junk :: .junk :: .junk :: .junk :: .junk :: .junk :: .junk :: .junk :: .junk :: .junk :: .junk :: .junk :: .junk :: .junk :: .junk :: .junk :: .junk :: .junk :: .junk :: .junk :: .junk :: .junk :: .junk :: .junk :: .junk :: .junk :: .junk :: .junk :: .junk :: .junk :: .junk :: .junk :: .junk :: [],[]⟩)|(.inr _)=>(.exit 4,⟨.junk :: .junk :: .junk :: .junk :: .junk :: .v (.int .i64 v39) :: .junk :: .junk :: .junk :: .junk :: .junk :: .junk :: .junk :: .junk :: .junk :: .junk :: .junk :: .junk :: .junk :: .junk :: .junk :: .junk :: .junk :: .junk :: .junk :: .junk :: .junk :: .junk :: .junk :: .junk :: .junk :: .junk :: .junk :: .junk :: .junk :: .junk :: .junk :: .junk :: .junk :: .junk :: .junk :: .junk :: .junk :: .junk :: .junk :: .junk :: .junk :: .junk :: .junk :: .junk :: .junk :: .junk :: .junk :: .junk :: .junk :: .junk :: .junk :: .junk :: .junk :: .junk :: .junk :: .junk :: .junk :: .junk :: .junk :: .junk :: .junk :: .junk :: .junk :: .junk :: .junk :: .junk :: .junk :: .junk :: .junk :: .junk :: .junk :: .junk :: .junk :: [],[]⟩)) ?_ ?_ ?_ ?_
      · rintro v41 v0 hr
        dsimp only [array_task_proves_l3] at hr
        try dsimp only
        refine wa_ T (g:=?_)
        rcases ifs hr with ⟨h32,hr⟩|⟨h32,hr⟩
        · have T:=an h32 T
          refine wa_ T (g:=?_)
          obtain ⟨v44,h33,hr⟩:=bs hr
          have T:=an (gx e_i h33) T
          refine wA T (g:=?_)
          obtain ⟨v45,h34,hr⟩:=bs hr
          have T:=an (gx e_i h34) T
          refine wA T (g:=?_)
          rcases ifs hr with ⟨h35,hr⟩|⟨h35,hr⟩
          · have T:=an h35 T
            refine wa_ T (g:=?_)
            cases hr
            refine ⟨rfl,?_⟩
            exact wk_ T [] rfl .nil
          · have T:=an h35 T
            refine wa_ T (g:=?_)
            cases hr
            refine ⟨rfl,?_⟩
            exact wk_ T [some 0] rfl (.rows .nil rfl rfl)
        · have T:=an h32 T
          refine wa_ T (g:=?_)
          cases hr
          refine ⟨rfl,?_⟩
          exact wk_ T [] rfl .nil
      · intro e h;rcases e with _|e<;>cases h
      · try dsimp only
        rcases v46 with _|_
        · try dsimp only at hr
          try dsimp only
          refine wa_ T (g:=?_)
          cases hr
          refine ⟨.inr rfl,_,(ry T),?_⟩
          exact wr [] rfl .nil
        · try dsimp only at hr
          try dsimp only
          refine wa_ T (g:=?_)
          cases hr
          refine ⟨.inr rfl,_,(ry T),?_⟩
          exact wr [] rfl .nil
      · try dsimp only
        exact wr [some 0] rfl (.rows .nil rfl rfl)
    · try dsimp only
      exact wr [some 0] rfl (.rows .nil rfl rfl)
  rfl

end Go.Rex

namespace Go.Rex
open Go.Proofs
open Go Go.Rex Go.RowKit
set_option maxRecDepth 100000
set_option maxHeartbeats 200000
def y33:=an @ag158 <| an @ag91 <| an @cs158 <| an @cs91 <| an @ok158 <| @ok91
theorem array_task_weighed_c1_c1_be62_spec {v1 : (List (List Int))} {v2 : Int} {v3 : Int} {v4 : (List Int)} {v5 : (List Int)} {v6 : (List Int)} {v7 : Int} (hr : array_task_weighed_c1_c1_be62 v1 v2 v3 v4 v5 v6 = some (v7)) : Spec (lim Tryz.prog) 151 [.fptr true [.list 1 (v1.map e_Li_),.v (.int .i64 v2)] 0,.fptr true [.v (.int .i64 v3),.list 1 (v4.map e_i),.list 1 (v5.map e_i),.list 1 (v6.map e_i)] 0] ⟨[.v (.int .i64 v7)],[]⟩:=by
  unfold array_task_weighed_c1_c1_be62 at hr
  have T:=an y33 <| an @e_Li_.eq_1 <| @e_i.eq_1
  apply Spec.fn Tryz.func151 rfl
  focus (simp [Tryz.f151]<;>exact rfl)
  focus
    refine wA T (g:=?_)
    obtain ⟨v8,h1,hr⟩:=bs hr
    apply TO.cal (wn T) rfl goFn152 (array_task_proves_spec h1) rfl rfl rfl
    repeat exact sd T
    refine wa_ T (g:=?_)
    apply TO.pop1 (wn T) (pop_not rfl)
    repeat exact sd T
    refine wa_ T (g:=?_)
    obtain ⟨⟨v9,v10⟩,h2,hr⟩:=bs hr
    try dsimp only at hr
    apply TO.cal (wn T) rfl goFn70 (array_refuse_spec h2) rfl rfl rfl
    repeat exact sd T
    refine wa_ T (g:=?_)
    obtain ⟨v11,h3,hr⟩:=bs hr
    apply TO.cal (wn T) rfl goFn126 (array_refuse_c1_11f9_spec h3) rfl rfl rfl
    repeat exact sd T
    refine wa_ T (g:=?_)
    cases hr
    refine ⟨.inr rfl,_,(ry T),?_⟩
    exact wr [] rfl .nil
  rfl

end Go.Rex

namespace Go.Rex
open Go.Proofs
open Go Go.Rex Go.RowKit
set_option maxRecDepth 100000
set_option maxHeartbeats 1000000
def y34:=an @ag121 <| an @cs121 <| an @ok121 <| an @so182 <| an @wi64_0a1 <| an @wi64_1a1 <| an @wi64_2a1 <| an @wi64_3a1 <| an @wi64_4a1 <| @wi64_5a1
theorem array_firstError_6002_spec {v1 : Bool} {v2 : Int} {v3 : Bool} {v4 : Int} {v5 : Int} {v6 : (List Int)} {v7 : Int} {v8 : Int} {v9 : Int} {v10 : (List Int)} {v11 : Int} {v12 : Int} {v13 : Int} {v14 : (List Int)} {v15 : Int} {v16 : Int} {v17 : (List (List Int))} {v18 : Int} {v19 : Int} {v20 : (List Int)} {v21 : (List Int)} {v22 : (List Int)} {v23 : Int} (hr : array_firstError_6002 v1 v2 v3 v4 v5 v6 v7 v8 v9 v10 v11 v12 v13 v14 v15 v16 v17 v18 v19 v20 v21 v22 = some (v23)) : Spec (lim Tryz.prog) 63 [.list 1 [[.func 126 [] [.fptr true [.v (.bool v1)] 0,.fptr true [.v (.int .i64 v2)] 0]],[.func 126 [] [.fptr true [.v (.bool v3)] 0,.fptr true [.v (.int .i64 v4)] 0]],[.func 168 [] [.fptr true [.v (.int .i64 v5)] 0,.fptr true [.func 162 [] [.fptr true [.list 1 (v6.map e_i)] 0,.fptr true [.v (.int .i64 v7)] 0,.fptr true [.v (.int .i64 v8)] 0]] 0]],[.func 168 [] [.fptr true [.v (.int .i64 v9)] 0,.fptr true [.func 162 [] [.fptr true [.list 1 (v10.map e_i)] 0,.fptr true [.v (.int .i64 v11)] 0,.fptr true [.v (.int .i64 v12)] 0]] 0]],[.func 168 [] [.fptr true [.v (.int .i64 v13)] 0,.fptr true [.func 162 [] [.fptr true [.list 1 (v14.map e_i)] 0,.fptr true [.v (.int .i64 v15)] 0,.fptr true [.v (.int .i64 v16)] 0]] 0]],[.func 151 [] [.fptr true [.list 1 (v17.map e_Li_),.v (.int .i64 v18)] 0,.fptr true [.v (.int .i64 v19),.list 1 (v20.map e_i),.list 1 (v21.map e_i),.list 1 (v22.map e_i)] 0]]]] ⟨[.v (.int .i64 v23)],[]⟩:=by
  unfold array_firstError_6002 at hr
  have T:=an y34 <| an @e_Li_.eq_1 <| @e_i.eq_1
  apply Spec.fn Tryz.func63 rfl
  focus (simp [Tryz.f63]<;>exact rfl)
  focus
    refine wc_ T (g:=?_)
    refine TX.unroll ?_
    repeat (first|(with_reducible first|refine mv ?_|refine TO.nil ?_)|((with_reducible first|apply TO.bin|apply TO.ia|apply TO.ld|apply TO.asg|apply TO.mv);(repeat (focus (show _ = _;first|exact k1 rfl|exact k2 rfl|(simp only [zz,y34,e_Li_,e_i,Nat.reduceAdd,Nat.reduceMul,Nat.reduceLeDiff,Nat.reduceEqDiff,tindexAddr,z5,Int.reduceToNat,Int.reduceLE,Int.reduceLT,Int.cast_ofNat_Int,tload,rowOf,partT,List.getElem?_map]<;>exact rfl)|exact rfl)));(with_reducible apply TO.here))|((with_reducible apply TX.region);(focus (simp only [zl]<;>exact rfl));(focus rfl);(try dsimp only))|((with_reducible apply TX.cond_true);(focus rfl);(focus (first|rfl|(simp only [z1,zn];done))))|((with_reducible apply TX.cond_false);(focus rfl);(focus (first|rfl|(simp only [z1,zn];done))))|fail)
    obtain ⟨v24,h1,hr⟩:=bs hr
    apply TO.cal (wn T) rfl goFn126 (array_refuse_c1_11f9_spec h1) rfl rfl rfl
    repeat exact sd T
    refine wa_ T (g:=?_)
    rcases ifs hr with ⟨h2,hr⟩|⟨h2,hr⟩
    · have T:=an h2 T
      refine wa_ T (g:=?_)
      cases hr
      refine ⟨.inr rfl,_,(ry T),?_⟩
      exact wk_ T [] rfl .nil
    · have T:=an h2 T
      refine wa_ T (g:=?_)
      refine TX.unroll ?_
      repeat (first|(with_reducible first|refine mv ?_|refine TO.nil ?_)|((with_reducible first|apply TO.bin|apply TO.ia|apply TO.ld|apply TO.asg|apply TO.mv);(repeat (focus (show _ = _;first|exact k1 rfl|exact k2 rfl|(simp only [zz,y34,e_Li_,e_i,Nat.reduceAdd,Nat.reduceMul,Nat.reduceLeDiff,Nat.reduceEqDiff,tindexAddr,z5,Int.reduceToNat,Int.reduceLE,Int.reduceLT,Int.cast_ofNat_Int,tload,rowOf,partT,List.getElem?_map,h2]<;>exact rfl)|exact rfl)));(with_reducible apply TO.here))|((with_reducible apply TX.region);(focus (simp only [zl]<;>exact rfl));(focus rfl);(try dsimp only))|((with_reducible apply TX.cond_true);(focus rfl);(focus (first|rfl|(simp only [z1,zn,h2];done))))|((with_reducible apply TX.cond_false);(focus rfl);(focus (first|rfl|(simp only [z1,zn,h2];done))))|fail)
      obtain ⟨v25,h3,hr⟩:=bs hr
      apply TO.cal (wn T) rfl goFn126 (array_refuse_c1_11f9_spec h3) rfl rfl rfl
      repeat exact sd T
      refine wa_ T (g:=?_)
      rcases ifs hr with ⟨h4,hr⟩|⟨h4,hr⟩
      · have T:=an h4 T
        refine wa_ T (g:=?_)
        cases hr
        refine ⟨.inr rfl,_,(ry T),?_⟩
        exact wk_ T [] rfl .nil
      · have T:=an h4 T
        refine wa_ T (g:=?_)
        refine TX.unroll ?_
        repeat (first|(with_reducible first|refine mv ?_|refine TO.nil ?_)|((with_reducible first|apply TO.bin|apply TO.ia|apply TO.ld|apply TO.asg|apply TO.mv);(repeat (focus (show _ = _;first|exact k1 rfl|exact k2 rfl|(simp only [zz,y34,e_Li_,e_i,Nat.reduceAdd,Nat.reduceMul,Nat.reduceLeDiff,Nat.reduceEqDiff,tindexAddr,z5,Int.reduceToNat,Int.reduceLE,Int.reduceLT,Int.cast_ofNat_Int,tload,rowOf,partT,List.getElem?_map,h2,h4]<;>exact rfl)|exact rfl)));(with_reducible apply TO.here))|((with_reducible apply TX.region);(focus (simp only [zl]<;>exact rfl));(focus rfl);(try dsimp only))|((with_reducible apply TX.cond_true);(focus rfl);(focus (first|rfl|(simp only [z1,zn,h2,h4];done))))|((with_reducible apply TX.cond_false);(focus rfl);(focus (first|rfl|(simp only [z1,zn,h2,h4];done))))|fail)
        obtain ⟨v26,h5,hr⟩:=bs hr
        apply TO.cal (wn T) rfl goFn168 (array_each_c1_6239_spec h5) rfl rfl rfl
        repeat exact sd T
        refine wa_ T (g:=?_)
        rcases ifs hr with ⟨h6,hr⟩|⟨h6,hr⟩
        · have T:=an h6 T
          refine wa_ T (g:=?_)
          cases hr
          refine ⟨.inr rfl,_,(ry T),?_⟩
          exact wk_ T [] rfl .nil
        · have T:=an h6 T
          refine wa_ T (g:=?_)
          refine TX.unroll ?_
          repeat (first|(with_reducible first|refine mv ?_|refine TO.nil ?_)|((with_reducible first|apply TO.bin|apply TO.ia|apply TO.ld|apply TO.asg|apply TO.mv);(repeat (focus (show _ = _;first|exact k1 rfl|exact k2 rfl|(simp only [zz,y34,e_Li_,e_i,Nat.reduceAdd,Nat.reduceMul,Nat.reduceLeDiff,Nat.reduceEqDiff,tindexAddr,z5,Int.reduceToNat,Int.reduceLE,Int.reduceLT,Int.cast_ofNat_Int,tload,rowOf,partT,List.getElem?_map,h2,h4,h6]<;>exact rfl)|exact rfl)));(with_reducible apply TO.here))|((with_reducible apply TX.region);(focus (simp only [zl]<;>exact rfl));(focus rfl);(try dsimp only))|((with_reducible apply TX.cond_true);(focus rfl);(focus (first|rfl|(simp only [z1,zn,h2,h4,h6];done))))|((with_reducible apply TX.cond_false);(focus rfl);(focus (first|rfl|(simp only [z1,zn,h2,h4,h6];done))))|fail)
          obtain ⟨v27,h7,hr⟩:=bs hr
          apply TO.cal (wn T) rfl goFn168 (array_each_c1_6239_spec h7) rfl rfl rfl
          repeat exact sd T
          refine wa_ T (g:=?_)
          rcases ifs hr with ⟨h8,hr⟩|⟨h8,hr⟩
          · have T:=an h8 T
            refine wa_ T (g:=?_)
            cases hr
            refine ⟨.inr rfl,_,(ry T),?_⟩
            exact wk_ T [] rfl .nil
          · have T:=an h8 T
            refine wa_ T (g:=?_)
            refine TX.unroll ?_
            repeat (first|(with_reducible first|refine mv ?_|refine TO.nil ?_)|((with_reducible first|apply TO.bin|apply TO.ia|apply TO.ld|apply TO.asg|apply TO.mv);(repeat (focus (show _ = _;first|exact k1 rfl|exact k2 rfl|(simp only [zz,y34,e_Li_,e_i,Nat.reduceAdd,Nat.reduceMul,Nat.reduceLeDiff,Nat.reduceEqDiff,tindexAddr,z5,Int.reduceToNat,Int.reduceLE,Int.reduceLT,Int.cast_ofNat_Int,tload,rowOf,partT,List.getElem?_map,h2,h4,h6,h8]<;>exact rfl)|exact rfl)));(with_reducible apply TO.here))|((with_reducible apply TX.region);(focus (simp only [zl]<;>exact rfl));(focus rfl);(try dsimp only))|((with_reducible apply TX.cond_true);(focus rfl);(focus (first|rfl|(simp only [z1,zn,h2,h4,h6,h8];done))))|((with_reducible apply TX.cond_false);(focus rfl);(focus (first|rfl|(simp only [z1,zn,h2,h4,h6,h8];done))))|fail)
            obtain ⟨v28,h9,hr⟩:=bs hr
            apply TO.cal (wn T) rfl goFn168 (array_each_c1_6239_spec h9) rfl rfl rfl
            repeat exact sd T
            refine wa_ T (g:=?_)
            rcases ifs hr with ⟨h10,hr⟩|⟨h10,hr⟩
            · have T:=an h10 T
              refine wa_ T (g:=?_)
              cases hr
              refine ⟨.inr rfl,_,(ry T),?_⟩
              exact wk_ T [] rfl .nil
            · have T:=an h10 T
              refine wa_ T (g:=?_)
              refine TX.unroll ?_
              repeat (first|(with_reducible first|refine mv ?_|refine TO.nil ?_)|((with_reducible first|apply TO.bin|apply TO.ia|apply TO.ld|apply TO.asg|apply TO.mv);(repeat (focus (show _ = _;first|exact k1 rfl|exact k2 rfl|(simp only [zz,y34,e_Li_,e_i,Nat.reduceAdd,Nat.reduceMul,Nat.reduceLeDiff,Nat.reduceEqDiff,tindexAddr,z5,Int.reduceToNat,Int.reduceLE,Int.reduceLT,Int.cast_ofNat_Int,tload,rowOf,partT,List.getElem?_map,h2,h4,h6,h8,h10]<;>exact rfl)|exact rfl)));(with_reducible apply TO.here))|((with_reducible apply TX.region);(focus (simp only [zl]<;>exact rfl));(focus rfl);(try dsimp only))|((with_reducible apply TX.cond_true);(focus rfl);(focus (first|rfl|(simp only [z1,zn,h2,h4,h6,h8,h10];done))))|((with_reducible apply TX.cond_false);(focus rfl);(focus (first|rfl|(simp only [z1,zn,h2,h4,h6,h8,h10];done))))|fail)
              obtain ⟨v29,h11,hr⟩:=bs hr
              apply TO.cal (wn T) rfl goFn151 (array_task_weighed_c1_c1_be62_spec h11) rfl rfl rfl
              repeat exact sd T
              refine wa_ T (g:=?_)
              rcases ifs hr with ⟨h12,hr⟩|⟨h12,hr⟩
              · have T:=an h12 T
                refine wa_ T (g:=?_)
                cases hr
                refine ⟨.inr rfl,_,(ry T),?_⟩
                exact wk_ T [] rfl .nil
              · have T:=an h12 T
                refine wa_ T (g:=?_)
                refine TX.unroll ?_
                refine wa_ T (g:=?_)
                cases hr
                refine ⟨.inr rfl,_,(ry T),?_⟩
                exact wk_ T [] rfl .nil
  rfl

end Go.Rex

namespace Go.Rex
open Go.Proofs
open Go Go.Rex Go.RowKit
set_option maxRecDepth 100000
set_option maxHeartbeats 1000000
def y35:=an @ag158 <| an @ag3 <| an @ag77 <| an @ag87 <| an @cs121 <| an @cs158 <| an @fd158_0 <| an @fd86_0 <| an @fd91_0 <| an @fd91_1 <| an @fd91_2 <| an @fd91_3 <| an @ok158 <| an @so182 <| an @so77 <| an @so87 <| @zc121
theorem array_task_weighed_c1_be62_spec {v1 : (List (List Int))} {v2 : Int} {v3 : Int} {v4 : (List Int)} {v5 : (List Int)} {v6 : (List Int)} {v7 : Int} (hr : array_task_weighed_c1_be62 v1 v2 v3 v4 v5 v6 = some (v7)) : Spec (lim Tryz.prog) 150 [.fptr true [.list 1 (v1.map e_Li_),.v (.int .i64 v2)] 0,.fptr true [.v (.int .i64 v3),.list 1 (v4.map e_i),.list 1 (v5.map e_i),.list 1 (v6.map e_i)] 0] ⟨[.v (.int .i64 v7)],[]⟩:=by
  unfold array_task_weighed_c1_be62 at hr
  have T:=an y35 <| an @e_Li_.eq_1 <| @e_i.eq_1
  apply Spec.fn Tryz.func150 rfl
  focus (simp [Tryz.f150]<;>exact rfl)
  focus
    refine wC T (g:=?_)
    rcases ifs hr with ⟨h1,hr⟩|⟨h1,hr⟩
    · have T:=an h1 T
      refine wA T (g:=?_)
      obtain ⟨⟨v8,v9⟩,h2,hr⟩:=bs hr
      try dsimp only at hr
      apply TD.cal (wn T) rfl goFn100 (array_within_spec h2) rfl rfl rfl
      repeat exact sd T
      refine wa_ T (g:=?_)
      obtain ⟨⟨v10,v11⟩,h3,hr⟩:=bs hr
      try dsimp only at hr
      apply TD.cal (wn T) rfl goFn70 (array_refuse_spec h3) rfl rfl rfl
      repeat exact sd T
      refine wA T (g:=?_)
      obtain ⟨⟨v12,v13,v14,v15⟩,h4,hr⟩:=bs hr
      try dsimp only at hr
      apply TD.cal (wn T) rfl goFn124 (array_allWithin_spec h4) rfl rfl rfl
      repeat exact sd T
      refine wA T (g:=?_)
      obtain ⟨⟨v16,v17,v18,v19⟩,h5,hr⟩:=bs hr
      try dsimp only at hr
      apply TD.cal (wn T) rfl goFn124 (array_allWithin_spec h5) rfl rfl rfl
      repeat exact sd T
      refine wA T (g:=?_)
      obtain ⟨⟨v20,v21,v22,v23⟩,h6,hr⟩:=bs hr
      try dsimp only at hr
      apply TD.cal (wn T) rfl goFn124 (array_allWithin_spec h6) rfl rfl rfl
      repeat exact sd T
      refine we_ T (g:=?_)
      obtain ⟨v24,h7,hr⟩:=bs hr
      apply TD.cal (wn T) rfl goFn63 (array_firstError_6002_spec h7) rfl rfl rfl
      repeat exact sd T
      refine wa_ T (g:=?_)
      cases hr
      refine ⟨.inr rfl,_,(ry T),?_⟩
      exact wk_ T [] rfl .nil
    · have T:=an h1 T
      refine wC T (g:=?_)
      rcases ifs hr with ⟨h8,hr⟩|⟨h8,hr⟩
      · have T:=an h8 T
        refine wA T (g:=?_)
        obtain ⟨⟨v25,v26⟩,h9,hr⟩:=bs hr
        try dsimp only at hr
        apply TD.cal (wn T) rfl goFn100 (array_within_spec h9) rfl rfl rfl
        repeat exact sd T
        refine wa_ T (g:=?_)
        obtain ⟨⟨v27,v28⟩,h10,hr⟩:=bs hr
        try dsimp only at hr
        apply TD.cal (wn T) rfl goFn70 (array_refuse_spec h10) rfl rfl rfl
        repeat exact sd T
        refine wA T (g:=?_)
        obtain ⟨⟨v29,v30,v31,v32⟩,h11,hr⟩:=bs hr
        try dsimp only at hr
        apply TD.cal (wn T) rfl goFn124 (array_allWithin_spec h11) rfl rfl rfl
        repeat exact sd T
        refine wA T (g:=?_)
        obtain ⟨⟨v33,v34,v35,v36⟩,h12,hr⟩:=bs hr
        try dsimp only at hr
        apply TD.cal (wn T) rfl goFn124 (array_allWithin_spec h12) rfl rfl rfl
        repeat exact sd T
        refine wA T (g:=?_)
        obtain ⟨⟨v37,v38,v39,v40⟩,h13,hr⟩:=bs hr
        try dsimp only at hr
        apply TD.cal (wn T) rfl goFn124 (array_allWithin_spec h13) rfl rfl rfl
        repeat exact sd T
        refine we_ T (g:=?_)
        obtain ⟨v41,h14,hr⟩:=bs hr
        apply TD.cal (wn T) rfl goFn63 (array_firstError_6002_spec h14) rfl rfl rfl
        repeat exact sd T
        refine wa_ T (g:=?_)
        cases hr
        refine ⟨.inr rfl,_,(ry T),?_⟩
        exact wk_ T [] rfl .nil
      · have T:=an h8 T
        refine wC T (g:=?_)
        obtain ⟨v42,h15,hr⟩:=bs hr
        apply TD.cal (wn T) rfl goFn142 (array_task_columns_spec h15) rfl rfl rfl
        repeat exact sd T
        refine wA T (g:=?_)
        obtain ⟨⟨v43,v44⟩,h16,hr⟩:=bs hr
        try dsimp only at hr
        apply TD.cal (wn T) rfl goFn100 (array_within_spec h16) rfl rfl rfl
        repeat exact sd T
        refine wa_ T (g:=?_)
        obtain ⟨⟨v45,v46⟩,h17,hr⟩:=bs hr
        try dsimp only at hr
        apply TD.cal (wn T) rfl goFn70 (array_refuse_spec h17) rfl rfl rfl
        repeat exact sd T
        refine wA T (g:=?_)
        obtain ⟨⟨v47,v48,v49,v50⟩,h18,hr⟩:=bs hr
        try dsimp only at hr
        apply TD.cal (wn T) rfl goFn124 (array_allWithin_spec h18) rfl rfl rfl
        repeat exact sd T
        refine wA T (g:=?_)
        obtain ⟨⟨v51,v52,v53,v54⟩,h19,hr⟩:=bs hr
        try dsimp only at hr
        apply TD.cal (wn T) rfl goFn124 (array_allWithin_spec h19) rfl rfl rfl
        repeat exact sd T
        refine wA T (g:=?_)
        obtain ⟨⟨v55,v56,v57,v58⟩,h20,hr⟩:=bs hr
        try dsimp only at hr
        apply TD.cal (wn T) rfl goFn124 (array_allWithin_spec h20) rfl rfl rfl
        repeat exact sd T
        refine we_ T (g:=?_)
        obtain ⟨v59,h21,hr⟩:=bs hr
        apply TD.cal (wn T) rfl goFn63 (array_firstError_6002_spec h21) rfl rfl rfl
        repeat exact sd T
        refine wa_ T (g:=?_)
        cases hr
        refine ⟨.inr rfl,_,(ry T),?_⟩
        exact wk_ T [] rfl .nil
  rfl

end Go.Rex

namespace Go.Rex
open Go.Proofs
open Go Go.Rex Go.RowKit
set_option maxRecDepth 100000
set_option maxHeartbeats 200000
def y36:=an @ag121 <| an @cs121 <| an @ok121 <| an @so182 <| an @wi64_0a1 <| @wi64_1a1
theorem array_firstError_2d8a_spec {v1 : (List (List Int))} {v2 : Int} {v3 : (List (List Int))} {v4 : Int} {v5 : Int} {v6 : (List Int)} {v7 : (List Int)} {v8 : (List Int)} {v9 : Int} (hr : array_firstError_2d8a v1 v2 v3 v4 v5 v6 v7 v8 = some (v9)) : Spec (lim Tryz.prog) 63 [.list 1 [[.func 103 [.agg [.list 1 (v1.map e_Li_),.v (.int .i64 v2)]] []],[.func 150 [] [.fptr true [.list 1 (v3.map e_Li_),.v (.int .i64 v4)] 0,.fptr true [.v (.int .i64 v5),.list 1 (v6.map e_i),.list 1 (v7.map e_i),.list 1 (v8.map e_i)] 0]]]] ⟨[.v (.int .i64 v9)],[]⟩:=by
  unfold array_firstError_2d8a at hr
  have T:=an y36 <| an @e_Li_.eq_1 <| @e_i.eq_1
  apply Spec.fn Tryz.func63 rfl
  focus (simp [Tryz.f63]<;>exact rfl)
  focus
    refine wc_ T (g:=?_)
    refine TX.unroll ?_
    repeat (first|(with_reducible first|refine mv ?_|refine TO.nil ?_)|((with_reducible first|apply TO.bin|apply TO.ia|apply TO.ld|apply TO.asg|apply TO.mv);(repeat (focus (show _ = _;first|exact k1 rfl|exact k2 rfl|(simp only [zz,y36,e_Li_,e_i,Nat.reduceAdd,Nat.reduceMul,Nat.reduceLeDiff,Nat.reduceEqDiff,tindexAddr,z5,Int.reduceToNat,Int.reduceLE,Int.reduceLT,Int.cast_ofNat_Int,tload,rowOf,partT,List.getElem?_map]<;>exact rfl)|exact rfl)));(with_reducible apply TO.here))|((with_reducible apply TX.region);(focus (simp only [zl]<;>exact rfl));(focus rfl);(try dsimp only))|((with_reducible apply TX.cond_true);(focus rfl);(focus (first|rfl|(simp only [z1,zn];done))))|((with_reducible apply TX.cond_false);(focus rfl);(focus (first|rfl|(simp only [z1,zn];done))))|fail)
    obtain ⟨v10,h1,hr⟩:=bs hr
    apply TO.cal (wn T) rfl goFn103 (array_task_check_spec h1) rfl rfl rfl
    repeat exact sd T
    refine wa_ T (g:=?_)
    rcases ifs hr with ⟨h2,hr⟩|⟨h2,hr⟩
    · have T:=an h2 T
      refine wa_ T (g:=?_)
      cases hr
      refine ⟨.inr rfl,_,(ry T),?_⟩
      exact wk_ T [] rfl .nil
    · have T:=an h2 T
      refine wa_ T (g:=?_)
      refine TX.unroll ?_
      repeat (first|(with_reducible first|refine mv ?_|refine TO.nil ?_)|((with_reducible first|apply TO.bin|apply TO.ia|apply TO.ld|apply TO.asg|apply TO.mv);(repeat (focus (show _ = _;first|exact k1 rfl|exact k2 rfl|(simp only [zz,y36,e_Li_,e_i,Nat.reduceAdd,Nat.reduceMul,Nat.reduceLeDiff,Nat.reduceEqDiff,tindexAddr,z5,Int.reduceToNat,Int.reduceLE,Int.reduceLT,Int.cast_ofNat_Int,tload,rowOf,partT,List.getElem?_map,h2]<;>exact rfl)|exact rfl)));(with_reducible apply TO.here))|((with_reducible apply TX.region);(focus (simp only [zl]<;>exact rfl));(focus rfl);(try dsimp only))|((with_reducible apply TX.cond_true);(focus rfl);(focus (first|rfl|(simp only [z1,zn,h2];done))))|((with_reducible apply TX.cond_false);(focus rfl);(focus (first|rfl|(simp only [z1,zn,h2];done))))|fail)
      obtain ⟨v11,h3,hr⟩:=bs hr
      apply TO.cal (wn T) rfl goFn150 (array_task_weighed_c1_be62_spec h3) rfl rfl rfl
      repeat exact sd T
      refine wa_ T (g:=?_)
      rcases ifs hr with ⟨h4,hr⟩|⟨h4,hr⟩
      · have T:=an h4 T
        refine wa_ T (g:=?_)
        cases hr
        refine ⟨.inr rfl,_,(ry T),?_⟩
        exact wk_ T [] rfl .nil
      · have T:=an h4 T
        refine wa_ T (g:=?_)
        refine TX.unroll ?_
        refine wa_ T (g:=?_)
        cases hr
        refine ⟨.inr rfl,_,(ry T),?_⟩
        exact wk_ T [] rfl .nil
  rfl

end Go.Rex

namespace Go.Rex
open Go.Proofs
open Go Go.Rex Go.RowKit
set_option maxRecDepth 100000
set_option maxHeartbeats 200000
def y37:=an @ag163 <| an @ag3 <| an @ag87 <| an @cs163 <| an @cs3 <| an @fd158_0 <| an @fd86_1 <| an @fd91_0 <| an @fd91_2 <| an @fd91_3 <| an @ok163 <| an @ok3 <| an @so87 <| an @st163 <| an @zc163 <| @wi64_0a1
theorem array_task_bound_spec {v1 : (List (List Int))} {v2 : Int} {v3 : Int} {v4 : (List Int)} {v5 : (List Int)} {v6 : (List Int)} {v7 : Int} {v8 : Int} (hr : array_task_bound v1 v2 v3 v4 v5 v6 = some (v7,v8)) : Spec (lim Tryz.prog) 111 [.agg [.list 1 (v1.map e_Li_),.v (.int .i64 v2)],.agg [.v (.int .i64 v3),.list 1 (v4.map e_i),.list 1 (v5.map e_i),.list 1 (v6.map e_i)]] ⟨[.agg [.v (.int .i64 v7),.v (.int .i64 v8)]],[]⟩:=by
  unfold array_task_bound at hr
  have T:=an y37 <| an @e_Li_.eq_1 <| @e_i.eq_1
  apply Spec.fn Tryz.func111 rfl
  focus (simp [Tryz.f111]<;>exact rfl)
  focus
    refine wD T (g:=?_)
    obtain ⟨v14,h5,hr⟩:=bs hr
    refine TX.loopE (step:=array_task_bound_l1 v2 v5) (x:=(0,0)) h5 (fun (v9,v10)=>⟨.junk :: .junk :: .fptr true [.list 1 (v1.map e_Li_),.v (.int .i64 v2)] 0 :: .fptr true [.v (.int .i64 v3),.list 1 (v4.map e_i),.list 1 (v5.map e_i),.list 1 (v6.map e_i)] 0 :: .lptr 0 0 0 :: .v (.int .i64 v9) :: .junk :: .junk :: .junk :: .junk :: .junk :: .list 1 (v5.map e_i) :: .v (.int .i64 (v5.length : Int)) :: .v (.int .i64 v10) :: .junk :: .junk :: .junk :: .junk :: .junk :: .junk :: .junk :: .junk :: .junk :: .junk :: .junk :: .junk :: .junk :: .junk :: .junk :: .junk :: .junk :: .junk :: .junk :: .junk :: .junk :: .junk :: .junk :: .junk :: .junk :: .junk :: [],[.var [.v (.int .i64 0),.v (.int .i64 0)]]⟩) (fun v12=>(.exit 0,⟨.junk :: .junk :: .junk :: .fptr true [.v (.int .i64 v3),.list 1 (v4.map e_i),.list 1 (v5.map e_i),.list 1 (v6.map e_i)] 0 :: .lptr 0 0 0 :: .v (.int .i64 v12) :: .junk :: .junk :: .junk :: .junk :: .junk :: .junk :: .junk :: .junk :: .junk :: .junk :: .junk :: .junk :: .junk :: .junk :: .junk :: .junk :: .junk :: .junk :: .junk :: .junk :: .junk :: .junk :: .junk :: .junk :: .junk :: .junk :: .junk :: .junk :: .junk :: .junk :: .junk :: .junk :: .junk :: .junk :: [],[.var [.v (.int .i64 0),.v (.int .i64 0)]]⟩)) ?_ ?_ ?_ ?_
    · rintro ⟨v9,v10⟩ v0 hr
      dsimp only [array_task_bound_l1] at hr
      try dsimp only
      refine wa_ T (g:=?_)
      rcases ifs hr with ⟨h3,hr⟩|⟨h3,hr⟩
      · have T:=an h3 T
        refine wa_ T (g:=?_)
        obtain ⟨v13,h4,hr⟩:=bs hr
        have T:=an (gx e_i h4) T
        refine wA T (g:=?_)
        cases hr
        refine ⟨rfl,?_⟩
        exact wk_ T [some 0] rfl (rv .nil rfl)
      · have T:=an h3 T
        refine wa_ T (g:=?_)
        cases hr
        refine ⟨rfl,?_⟩
        exact wk_ T [some 0] rfl (rv .nil rfl)
    · intro e h;cases h
    · try dsimp only
      refine wC T (g:=?_)
      obtain ⟨v20,h10,hr⟩:=bs hr
      refine TX.loopE (step:=array_task_bound_l2 v6) (x:=(v14,0)) h10 (fun (v15,v16)=>⟨.junk :: .junk :: .junk :: .fptr true [.v (.int .i64 v3),.list 1 (v4.map e_i),.list 1 (v5.map e_i),.list 1 (v6.map e_i)] 0 :: .lptr 0 0 0 :: .v (.int .i64 v15) :: .junk :: .junk :: .junk :: .junk :: .junk :: .junk :: .junk :: .junk :: .junk :: .junk :: .junk :: .junk :: .junk :: .junk :: .junk :: .junk :: .junk :: .junk :: .junk :: .junk :: .list 1 (v6.map e_i) :: .v (.int .i64 (v6.length : Int)) :: .v (.int .i64 v16) :: .junk :: .junk :: .junk :: .junk :: .junk :: .junk :: .junk :: .junk :: .junk :: .junk :: .junk :: [],[.var [.v (.int .i64 0),.v (.int .i64 0)]]⟩) (fun v18=>(.exit 2,⟨.junk :: .junk :: .junk :: .fptr true [.v (.int .i64 v3),.list 1 (v4.map e_i),.list 1 (v5.map e_i),.list 1 (v6.map e_i)] 0 :: .lptr 0 0 0 :: .v (.int .i64 v18) :: .junk :: .junk :: .junk :: .junk :: .junk :: .junk :: .junk :: .junk :: .junk :: .junk :: .junk :: .junk :: .junk :: .junk :: .junk :: .junk :: .junk :: .junk :: .junk :: .junk :: .junk :: .junk :: .junk :: .junk :: .junk :: .junk :: .junk :: .junk :: .junk :: .junk :: .junk :: .junk :: .junk :: .junk :: [],[.var [.v (.int .i64 0),.v (.int .i64 0)]]⟩)) ?_ ?_ ?_ ?_
      · rintro ⟨v15,v16⟩ v0 hr
        dsimp only [array_task_bound_l2] at hr
        try dsimp only
        refine wa_ T (g:=?_)
        rcases ifs hr with ⟨h8,hr⟩|⟨h8,hr⟩
        · have T:=an h8 T
          refine wa_ T (g:=?_)
          obtain ⟨v19,h9,hr⟩:=bs hr
          have T:=an (gx e_i h9) T
          refine wA T (g:=?_)
          cases hr
          refine ⟨rfl,?_⟩
          exact wk_ T [some 0] rfl (rv .nil rfl)
        · have T:=an h8 T
          refine wa_ T (g:=?_)
          cases hr
          refine ⟨rfl,?_⟩
          exact wk_ T [some 0] rfl (rv .nil rfl)
      · intro e h;cases h
      · try dsimp only
        refine wA T (g:=?_)
        cases hr
        refine ⟨.inr rfl,_,(ry T),?_⟩
        exact wr [] rfl .nil
      · try dsimp only
        exact wr [some 0] rfl (rv .nil rfl)
    · try dsimp only
      exact wr [some 0] rfl (rv .nil rfl)
  rfl

end Go.Rex

namespace Go.Rex
open Go.Proofs
open Go Go.Rex Go.RowKit
set_option maxRecDepth 100000
set_option maxHeartbeats 200000
def y38:=an @ag158 <| an @ag86 <| an @ag91 <| an @ag96 <| an @ar96 <| an @cs121 <| an @cs158 <| an @cs3 <| an @cs86 <| an @cs91 <| an @cs96 <| an @ok158 <| an @ok3 <| an @ok86 <| an @ok91 <| an @ok96 <| an @so182 <| an @st158 <| an @st96 <| an @zc121 <| an @zc158 <| @zc96
theorem array_CheckWeights_spec {v1 : (List (List Int))} {v2 : Int} {v3 : Int} {v4 : (List Int)} {v5 : (List Int)} {v6 : (List Int)} {v7 : Int} {v8 : Int} {v9 : Int} (hr : array_CheckWeights v1 v2 v3 v4 v5 v6 = some (v7,v8,v9)) : Spec (lim Tryz.prog) 52 [.agg [.list 1 (v1.map e_Li_),.v (.int .i64 v2)],.agg [.v (.int .i64 v3),.list 1 (v4.map e_i),.list 1 (v5.map e_i),.list 1 (v6.map e_i)]] ⟨[.tuple [.agg [.v (.int .i64 v7),.v (.int .i64 v8)],.v (.int .i64 v9)]],[]⟩:=by
  unfold array_CheckWeights at hr
  have T:=an y38 <| an @e_Li_.eq_1 <| @e_i.eq_1
  apply Spec.fn Tryz.func52 rfl
  focus (simp [Tryz.f52]<;>exact rfl)
  focus
    refine wB T (g:=?_)
    obtain ⟨⟨v10,v11,v12,v13,v14,v15⟩,h1,hr⟩:=bs hr
    try dsimp only at hr
    apply TD.cal (wn T) rfl goFn110 (array_task_weighed_spec h1) rfl rfl rfl
    repeat exact sd T
    refine we_ T (g:=?_)
    obtain ⟨v16,h2,hr⟩:=bs hr
    apply TD.cal (wn T) rfl goFn63 (array_firstError_2d8a_spec h2) rfl rfl rfl
    repeat exact sd T
    refine wa_ T (g:=?_)
    rcases ifs hr with ⟨h3,hr⟩|⟨h3,hr⟩
    · have T:=an h3 T
      refine wa_ T (g:=?_)
      cases hr
      refine ⟨.inr rfl,_,(ry T),?_⟩
      exact wk_ T [] rfl .nil
    · have T:=an h3 T
      refine wA T (g:=?_)
      obtain ⟨⟨v17,v18⟩,h4,hr⟩:=bs hr
      try dsimp only at hr
      apply TO.cal (wn T) rfl goFn111 (array_task_bound_spec h4) rfl rfl rfl
      repeat exact sd T
      refine wa_ T (g:=?_)
      obtain ⟨⟨v19,v20⟩,h5,hr⟩:=bs hr
      try dsimp only at hr
      apply TO.cal (wn T) rfl goFn107 (array_fraction_lowest_spec h5) rfl rfl rfl
      repeat exact sd T
      refine wa_ T (g:=?_)
      cases hr
      refine ⟨.inr rfl,_,(ry T),?_⟩
      exact wk_ T [] rfl .nil
  rfl

end Go.Rex

namespace Go.Rex
open Go.Proofs
open Go Go.Rex Go.RowKit
set_option maxRecDepth 100000
set_option maxHeartbeats 200000
def y39:=an @ag3 <| an @fd163_0 <| @fd163_1
theorem array_fraction_isAtLeast_spec {v1 : Int} {v2 : Int} {v3 : Int} {v4 : Bool} (hr : array_fraction_isAtLeast v1 v2 v3 = some (v4)) : Spec (lim Tryz.prog) 113 [.agg [.v (.int .i64 v1),.v (.int .i64 v2)],.v (.int .i64 v3)] ⟨[.v (.bool v4)],[]⟩:=by
  unfold array_fraction_isAtLeast at hr
  have T:=y39
  apply Spec.fn Tryz.func113 rfl
  focus (simp [Tryz.f113]<;>exact rfl)
  focus
    refine wB T (g:=?_)
    cases hr
    refine ⟨.inr rfl,_,(ry T),?_⟩
    exact wr [] rfl .nil
  rfl

end Go.Rex

namespace Go.Rex
open Go.Proofs
open Go Go.Rex Go.RowKit
set_option maxRecDepth 100000
set_option maxHeartbeats 200000
def y40:=an @ag158 <| an @ag3 <| an @ag91 <| an @cs158 <| an @cs91 <| an @ok158 <| @ok91
theorem array_CannotReach_c1_c881_spec {v1 : (List (List Int))} {v2 : Int} {v3 : Int} {v4 : (List Int)} {v5 : (List Int)} {v6 : (List Int)} {v7 : Int} {v8 : Int} (hr : array_CannotReach_c1_c881 v1 v2 v3 v4 v5 v6 v7 = some (v8)) : Spec (lim Tryz.prog) 112 [.fptr true [.list 1 (v1.map e_Li_),.v (.int .i64 v2)] 0,.fptr true [.v (.int .i64 v3),.list 1 (v4.map e_i),.list 1 (v5.map e_i),.list 1 (v6.map e_i)] 0,.fptr true [.v (.int .i64 v7)] 0] ⟨[.v (.int .i64 v8)],[]⟩:=by
  unfold array_CannotReach_c1_c881 at hr
  have T:=an y40 <| an @e_Li_.eq_1 <| @e_i.eq_1
  apply Spec.fn Tryz.func112 rfl
  focus (simp [Tryz.f112]<;>exact rfl)
  focus
    refine wA T (g:=?_)
    obtain ⟨⟨v9,v10⟩,h1,hr⟩:=bs hr
    try dsimp only at hr
    apply TD.cal (wn T) rfl goFn111 (array_task_bound_spec h1) rfl rfl rfl
    repeat exact sd T
    refine wA T (g:=?_)
    obtain ⟨v11,h2,hr⟩:=bs hr
    apply TD.cal (wn T) rfl goFn113 (array_fraction_isAtLeast_spec h2) rfl rfl rfl
    repeat exact sd T
    refine wa_ T (g:=?_)
    obtain ⟨⟨v12,v13⟩,h3,hr⟩:=bs hr
    try dsimp only at hr
    apply TD.cal (wn T) rfl goFn70 (array_refuse_spec h3) rfl rfl rfl
    repeat exact sd T
    refine wa_ T (g:=?_)
    obtain ⟨v14,h4,hr⟩:=bs hr
    apply TD.cal (wn T) rfl goFn126 (array_refuse_c1_11f9_spec h4) rfl rfl rfl
    repeat exact sd T
    refine wa_ T (g:=?_)
    cases hr
    refine ⟨.inr rfl,_,(ry T),?_⟩
    exact wr [] rfl .nil
  rfl

end Go.Rex

namespace Go.Rex
open Go.Proofs
open Go Go.Rex Go.RowKit
set_option maxRecDepth 100000
set_option maxHeartbeats 1000000
def y41:=an @ag121 <| an @cs121 <| an @ok121 <| an @so182 <| an @wi64_0a1 <| an @wi64_1a1 <| an @wi64_2a1 <| @wi64_3a1
theorem array_firstError_dd43_spec {v1 : (List (List Int))} {v2 : Int} {v3 : Bool} {v4 : Int} {v5 : (List (List Int))} {v6 : Int} {v7 : Int} {v8 : (List Int)} {v9 : (List Int)} {v10 : (List Int)} {v11 : (List (List Int))} {v12 : Int} {v13 : Int} {v14 : (List Int)} {v15 : (List Int)} {v16 : (List Int)} {v17 : Int} {v18 : Int} (hr : array_firstError_dd43 v1 v2 v3 v4 v5 v6 v7 v8 v9 v10 v11 v12 v13 v14 v15 v16 v17 = some (v18)) : Spec (lim Tryz.prog) 63 [.list 1 [[.func 103 [.agg [.list 1 (v1.map e_Li_),.v (.int .i64 v2)]] []],[.func 126 [] [.fptr true [.v (.bool v3)] 0,.fptr true [.v (.int .i64 v4)] 0]],[.func 150 [] [.fptr true [.list 1 (v5.map e_Li_),.v (.int .i64 v6)] 0,.fptr true [.v (.int .i64 v7),.list 1 (v8.map e_i),.list 1 (v9.map e_i),.list 1 (v10.map e_i)] 0]],[.func 112 [] [.fptr true [.list 1 (v11.map e_Li_),.v (.int .i64 v12)] 0,.fptr true [.v (.int .i64 v13),.list 1 (v14.map e_i),.list 1 (v15.map e_i),.list 1 (v16.map e_i)] 0,.fptr true [.v (.int .i64 v17)] 0]]]] ⟨[.v (.int .i64 v18)],[]⟩:=by
  unfold array_firstError_dd43 at hr
  have T:=an y41 <| an @e_Li_.eq_1 <| @e_i.eq_1
  apply Spec.fn Tryz.func63 rfl
  focus (simp [Tryz.f63]<;>exact rfl)
  focus
    refine wc_ T (g:=?_)
    refine TX.unroll ?_
    repeat (first|(with_reducible first|refine mv ?_|refine TO.nil ?_)|((with_reducible first|apply TO.bin|apply TO.ia|apply TO.ld|apply TO.asg|apply TO.mv);(repeat (focus (show _ = _;first|exact k1 rfl|exact k2 rfl|(simp only [zz,y41,e_Li_,e_i,Nat.reduceAdd,Nat.reduceMul,Nat.reduceLeDiff,Nat.reduceEqDiff,tindexAddr,z5,Int.reduceToNat,Int.reduceLE,Int.reduceLT,Int.cast_ofNat_Int,tload,rowOf,partT,List.getElem?_map]<;>exact rfl)|exact rfl)));(with_reducible apply TO.here))|((with_reducible apply TX.region);(focus (simp only [zl]<;>exact rfl));(focus rfl);(try dsimp only))|((with_reducible apply TX.cond_true);(focus rfl);(focus (first|rfl|(simp only [z1,zn];done))))|((with_reducible apply TX.cond_false);(focus rfl);(focus (first|rfl|(simp only [z1,zn];done))))|fail)
    obtain ⟨v19,h1,hr⟩:=bs hr
    apply TO.cal (wn T) rfl goFn103 (array_task_check_spec h1) rfl rfl rfl
    repeat exact sd T
    refine wa_ T (g:=?_)
    rcases ifs hr with ⟨h2,hr⟩|⟨h2,hr⟩
    · have T:=an h2 T
      refine wa_ T (g:=?_)
      cases hr
      refine ⟨.inr rfl,_,(ry T),?_⟩
      exact wk_ T [] rfl .nil
    · have T:=an h2 T
      refine wa_ T (g:=?_)
      refine TX.unroll ?_
      repeat (first|(with_reducible first|refine mv ?_|refine TO.nil ?_)|((with_reducible first|apply TO.bin|apply TO.ia|apply TO.ld|apply TO.asg|apply TO.mv);(repeat (focus (show _ = _;first|exact k1 rfl|exact k2 rfl|(simp only [zz,y41,e_Li_,e_i,Nat.reduceAdd,Nat.reduceMul,Nat.reduceLeDiff,Nat.reduceEqDiff,tindexAddr,z5,Int.reduceToNat,Int.reduceLE,Int.reduceLT,Int.cast_ofNat_Int,tload,rowOf,partT,List.getElem?_map,h2]<;>exact rfl)|exact rfl)));(with_reducible apply TO.here))|((with_reducible apply TX.region);(focus (simp only [zl]<;>exact rfl));(focus rfl);(try dsimp only))|((with_reducible apply TX.cond_true);(focus rfl);(focus (first|rfl|(simp only [z1,zn,h2];done))))|((with_reducible apply TX.cond_false);(focus rfl);(focus (first|rfl|(simp only [z1,zn,h2];done))))|fail)
      obtain ⟨v20,h3,hr⟩:=bs hr
      apply TO.cal (wn T) rfl goFn126 (array_refuse_c1_11f9_spec h3) rfl rfl rfl
      repeat exact sd T
      refine wa_ T (g:=?_)
      rcases ifs hr with ⟨h4,hr⟩|⟨h4,hr⟩
      · have T:=an h4 T
        refine wa_ T (g:=?_)
        cases hr
        refine ⟨.inr rfl,_,(ry T),?_⟩
        exact wk_ T [] rfl .nil
      · have T:=an h4 T
        refine wa_ T (g:=?_)
        refine TX.unroll ?_
        repeat (first|(with_reducible first|refine mv ?_|refine TO.nil ?_)|((with_reducible first|apply TO.bin|apply TO.ia|apply TO.ld|apply TO.asg|apply TO.mv);(repeat (focus (show _ = _;first|exact k1 rfl|exact k2 rfl|(simp only [zz,y41,e_Li_,e_i,Nat.reduceAdd,Nat.reduceMul,Nat.reduceLeDiff,Nat.reduceEqDiff,tindexAddr,z5,Int.reduceToNat,Int.reduceLE,Int.reduceLT,Int.cast_ofNat_Int,tload,rowOf,partT,List.getElem?_map,h2,h4]<;>exact rfl)|exact rfl)));(with_reducible apply TO.here))|((with_reducible apply TX.region);(focus (simp only [zl]<;>exact rfl));(focus rfl);(try dsimp only))|((with_reducible apply TX.cond_true);(focus rfl);(focus (first|rfl|(simp only [z1,zn,h2,h4];done))))|((with_reducible apply TX.cond_false);(focus rfl);(focus (first|rfl|(simp only [z1,zn,h2,h4];done))))|fail)
        obtain ⟨v21,h5,hr⟩:=bs hr
        apply TO.cal (wn T) rfl goFn150 (array_task_weighed_c1_be62_spec h5) rfl rfl rfl
        repeat exact sd T
        refine wa_ T (g:=?_)
        rcases ifs hr with ⟨h6,hr⟩|⟨h6,hr⟩
        · have T:=an h6 T
          refine wa_ T (g:=?_)
          cases hr
          refine ⟨.inr rfl,_,(ry T),?_⟩
          exact wk_ T [] rfl .nil
        · have T:=an h6 T
          refine wa_ T (g:=?_)
          refine TX.unroll ?_
          repeat (first|(with_reducible first|refine mv ?_|refine TO.nil ?_)|((with_reducible first|apply TO.bin|apply TO.ia|apply TO.ld|apply TO.asg|apply TO.mv);(repeat (focus (show _ = _;first|exact k1 rfl|exact k2 rfl|(simp only [zz,y41,e_Li_,e_i,Nat.reduceAdd,Nat.reduceMul,Nat.reduceLeDiff,Nat.reduceEqDiff,tindexAddr,z5,Int.reduceToNat,Int.reduceLE,Int.reduceLT,Int.cast_ofNat_Int,tload,rowOf,partT,List.getElem?_map,h2,h4,h6]<;>exact rfl)|exact rfl)));(with_reducible apply TO.here))|((with_reducible apply TX.region);(focus (simp only [zl]<;>exact rfl));(focus rfl);(try dsimp only))|((with_reducible apply TX.cond_true);(focus rfl);(focus (first|rfl|(simp only [z1,zn,h2,h4,h6];done))))|((with_reducible apply TX.cond_false);(focus rfl);(focus (first|rfl|(simp only [z1,zn,h2,h4,h6];done))))|fail)
          obtain ⟨v22,h7,hr⟩:=bs hr
          apply TO.cal (wn T) rfl goFn112 (array_CannotReach_c1_c881_spec h7) rfl rfl rfl
          repeat exact sd T
          refine wa_ T (g:=?_)
          rcases ifs hr with ⟨h8,hr⟩|⟨h8,hr⟩
          · have T:=an h8 T
            refine wa_ T (g:=?_)
            cases hr
            refine ⟨.inr rfl,_,(ry T),?_⟩
            exact wk_ T [] rfl .nil
          · have T:=an h8 T
            refine wa_ T (g:=?_)
            refine TX.unroll ?_
            refine wa_ T (g:=?_)
            cases hr
            refine ⟨.inr rfl,_,(ry T),?_⟩
            exact wk_ T [] rfl .nil
  rfl

end Go.Rex

namespace Go.Rex
open Go.Proofs
open Go Go.Rex Go.RowKit
set_option maxRecDepth 100000
set_option maxHeartbeats 200000
def y42:=an @ag158 <| an @ag3 <| an @ag86 <| an @ag91 <| an @cs121 <| an @cs158 <| an @cs86 <| an @cs91 <| an @ok158 <| an @ok86 <| an @ok91 <| an @so182 <| an @st158 <| an @zc121 <| @zc158
theorem array_CannotReach_spec {v1 : (List (List Int))} {v2 : Int} {v3 : Int} {v4 : Int} {v5 : (List Int)} {v6 : (List Int)} {v7 : (List Int)} {v8 : Int} (hr : array_CannotReach v1 v2 v3 v4 v5 v6 v7 = some (v8)) : Spec (lim Tryz.prog) 54 [.agg [.list 1 (v1.map e_Li_),.v (.int .i64 v2)],.v (.int .i64 v3),.agg [.v (.int .i64 v4),.list 1 (v5.map e_i),.list 1 (v6.map e_i),.list 1 (v7.map e_i)]] ⟨[.v (.int .i64 v8)],[]⟩:=by
  unfold array_CannotReach at hr
  have T:=an y42 <| an @e_Li_.eq_1 <| @e_i.eq_1
  apply Spec.fn Tryz.func54 rfl
  focus (simp [Tryz.f54]<;>exact rfl)
  focus
    refine wB T (g:=?_)
    obtain ⟨⟨v9,v10⟩,h1,hr⟩:=bs hr
    try dsimp only at hr
    apply TD.cal (wn T) rfl goFn100 (array_within_spec h1) rfl rfl rfl
    repeat exact sd T
    refine wA T (g:=?_)
    obtain ⟨⟨v11,v12,v13,v14,v15,v16⟩,h2,hr⟩:=bs hr
    try dsimp only at hr
    apply TD.cal (wn T) rfl goFn110 (array_task_weighed_spec h2) rfl rfl rfl
    repeat exact sd T
    refine wa_ T (g:=?_)
    apply TD.frz 0 rfl rfl
    repeat exact sd T
    refine we_ T (g:=?_)
    obtain ⟨v17,h3,hr⟩:=bs hr
    apply TD.cal (wn T) rfl goFn63 (array_firstError_dd43_spec h3) rfl rfl rfl
    repeat exact sd T
    refine wa_ T (g:=?_)
    cases hr
    refine ⟨.inr rfl,_,(ry T),?_⟩
    exact wr [] rfl .nil
  rfl

end Go.Rex

namespace Go.Rex
open Go.Proofs
open Go Go.Rex Go.RowKit
set_option maxRecDepth 100000
set_option maxHeartbeats 200000
theorem base_Within_spec {v1 : Int} {v2 : Int} {v3 : Int} {v4 : Bool} (hr : base_Within v1 v2 v3 = some (v4)) : Spec (lim Tryz.prog) 17 [.v (.int .i64 v1),.v (.int .i64 v2),.v (.int .i64 v3)] ⟨[.v (.bool v4)],[]⟩:=by
  unfold base_Within at hr
  have T:=trivial
  apply Spec.fn Tryz.func17 rfl
  focus (simp [Tryz.f17]<;>exact rfl)
  focus
    refine wa_ T (g:=?_)
    rcases ifs hr with ⟨h1,hr⟩|⟨h1,hr⟩
    · have T:=an h1 T
      refine wa_ T (g:=?_)
      cases hr
      refine ⟨.inr rfl,_,(ry T),?_⟩
      exact wk_ T [] rfl .nil
    · have T:=an h1 T
      refine wa_ T (g:=?_)
      cases hr
      refine ⟨.inr rfl,_,(ry T),?_⟩
      exact wk_ T [] rfl .nil
  rfl

end Go.Rex

namespace Go.Rex
open Go.Proofs
open Go Go.Rex Go.RowKit
set_option maxRecDepth 100000
set_option maxHeartbeats 1000000
def y43:=an @ag3 <| an @ag77 <| an @ag87 <| an @cs3 <| an @cs87 <| an @fd86_0 <| an @fd86_1 <| an @ok3 <| an @ok87 <| an @so77 <| an @so87 <| @wi64_0a1
theorem ref07_CheckTask_spec {v1 : (List (List Int))} {v2 : Int} {v3 : Int} (hr : ref07_CheckTask v1 v2 = some (v3)) : Spec (lim Tryz.prog) 55 [.agg [.list 1 (v1.map e_Li_),.v (.int .i64 v2)]] ⟨[.v (.int .i64 v3)],[]⟩:=by
  unfold ref07_CheckTask at hr
  have T:=an y43 <| an @e_Li_.eq_1 <| @e_i.eq_1
  apply Spec.fn Tryz.func55 rfl
  focus (simp [Tryz.f55]<;>exact rfl)
  focus
    refine wD T (g:=?_)
    rcases ifs hr with ⟨h1,hr⟩|⟨h1,hr⟩
    · have T:=an h1 T
      refine wa_ T (g:=?_)
      cases hr
      refine ⟨.inr rfl,_,(ry T),?_⟩
      exact wk_ T [] rfl .nil
    · have T:=an h1 T
      refine wC T (g:=?_)
      rcases ifs hr with ⟨h2,hr⟩|⟨h2,hr⟩
      · have T:=an h2 T
        refine wa_ T (g:=?_)
        cases hr
        refine ⟨.inr rfl,_,(ry T),?_⟩
        exact wk_ T [] rfl .nil
      · have T:=an h2 T
        refine wA T (g:=?_)
        obtain ⟨v4,h3,hr⟩:=bs hr
        have T:=an (gx e_Li_ h3) T
        refine wC T (g:=?_)
        rcases ifs hr with ⟨h4,hr⟩|⟨h4,hr⟩
        · have T:=an h4 T
          refine wa_ T (g:=?_)
          cases hr
          refine ⟨.inr rfl,_,(ry T),?_⟩
          exact wk_ T [] rfl .nil
        · have T:=an h4 T
          refine wC T (g:=?_)
          rcases ifs hr with ⟨h5,hr⟩|⟨h5,hr⟩
          · have T:=an h5 T
            refine wa_ T (g:=?_)
            cases hr
            refine ⟨.inr rfl,_,(ry T),?_⟩
            exact wk_ T [] rfl .nil
          · have T:=an h5 T
            refine wa_ T (g:=?_)
            obtain ⟨v21,h30,hr⟩:=bs hr
            refine TX.loopE (step:=ref07_CheckTask_l1 v1 v4) (x:=0) h30 (fun v5=>⟨.junk :: .fptr true [.list 1 (v1.map e_Li_),.v (.int .i64 v2)] 0 :: .junk :: .v (.int .i64 v5) :: .junk :: .junk :: .junk :: .junk :: .junk :: .junk :: .junk :: .junk :: .junk :: .junk :: .junk :: .junk :: .junk :: .junk :: .junk :: .junk :: .junk :: .junk :: .junk :: .junk :: .junk :: .junk :: .junk :: .junk :: .junk :: .junk :: .junk :: .junk :: .junk :: .junk :: .junk :: .junk :: .junk :: .junk :: .junk :: .junk :: .junk :: .junk :: .junk :: .junk :: .junk :: .junk :: .junk :: .junk :: .junk :: .junk :: .junk :: .junk :: .junk :: .junk :: .junk :: .junk :: .junk :: .junk :: .junk :: .junk :: .junk :: .junk :: .junk :: .junk :: .junk :: .junk :: .junk :: .junk :: [],[]⟩) (fun e=>match e with|(.inl v13)=>(.ret,⟨.junk :: .junk :: .v (.int .i64 v13) :: .junk :: .junk :: .junk :: .junk :: .junk :: .junk :: .junk :: .junk :: .junk :: .junk :: .junk :: .junk :: .junk :: .junk :: .junk :: .junk :: .junk :: .junk :: .junk :: .junk :: .junk :: .junk :: .junk :: .junk :: .junk :: .junk :: .junk :: .junk :: .junk :: .junk :: .junk :: .junk :: .junk :: .junk :: .junk :: .junk :: .junk :: .junk :: .junk :: .junk :: .junk :: .junk :: .junk :: .junk :: .junk :: .junk :: .junk :: .junk :: .junk :: .junk :: .junk :: .junk :: .junk :: .junk :: .junk :: .junk :: .junk :: .junk :: .junk :: .junk :: .junk :: .junk :: .junk :: .junk :: .junk :: [],[]⟩)|(.inr _)=>(.exit 0,⟨.junk :: .fptr true [.list 1 (v1.map e_Li_),.v (.int .i64 v2)] 0 :: .junk :: .junk :: .junk :: .junk :: .junk :: .junk :: .junk :: .junk :: .junk :: .junk :: .junk :: .junk :: .junk :: .junk :: .junk :: .junk :: .junk :: .junk :: .junk :: .junk :: .junk :: .junk :: .junk :: .junk :: .junk :: .junk :: .junk :: .junk :: .junk :: .junk :: .junk :: .junk :: .junk :: .junk :: .junk :: .junk :: .junk :: .junk :: .junk :: .junk :: .junk :: .junk :: .junk :: .junk :: .junk :: .junk :: .junk :: .junk :: .junk :: .junk :: .junk :: .junk :: .junk :: .junk :: .junk :: .junk :: .junk :: .junk :: .junk :: .junk :: .junk :: .junk :: .junk :: .junk :: .junk :: .junk :: [],[]⟩)) ?_ ?_ ?_ ?_
            · rintro v5 v0 hr
              dsimp only [ref07_CheckTask_l1] at hr
              try dsimp only
              refine wC T (g:=?_)
              rcases ifs hr with ⟨h18,hr⟩|⟨h18,hr⟩
              · have T:=an h18 T
                refine wA T (g:=?_)
                obtain ⟨v14,h19,hr⟩:=bs hr
                have T:=an (gx e_Li_ h19) T
                refine wC T (g:=?_)
                rcases ifs hr with ⟨h20,hr⟩|⟨h20,hr⟩
                · have T:=an h20 T
                  refine wa_ T (g:=?_)
                  cases hr
                  refine ⟨rfl,?_⟩
                  exact wk_ T [] rfl .nil
                · have T:=an h20 T
                  refine wa_ T (g:=?_)
                  obtain ⟨v20,h29,hr⟩:=bs hr
                  refine TX.loopE (step:=ref07_CheckTask_l2 v14) (x:=0) h29 (fun v15=>⟨.junk :: .fptr true [.list 1 (v1.map e_Li_),.v (.int .i64 v2)] 0 :: .junk :: .v (.int .i64 v5) :: .v (.int .i64 v15) :: .junk :: .junk :: .junk :: .junk :: .junk :: .junk :: .junk :: .junk :: .junk :: .junk :: .junk :: .junk :: .junk :: .junk :: .junk :: .junk :: .junk :: .junk :: .junk :: .junk :: .junk :: .junk :: .junk :: .junk :: .junk :: .junk :: .junk :: .junk :: .junk :: .junk :: .junk :: .junk :: .junk :: .junk :: .junk :: .junk :: .junk :: .junk :: .junk :: .junk :: .junk :: .junk :: .junk :: .junk :: .junk :: .junk :: .junk :: .junk :: .junk :: .junk :: .junk :: .junk :: .junk :: .junk :: .junk :: .junk :: .junk :: .junk :: .junk :: .junk :: .junk :: .junk :: .junk :: [],[]⟩) (fun e=>match e with|(.inl _)=>(.ret,⟨.junk :: .junk :: .v (.int .i64 2) :: .junk :: .junk :: .junk :: .junk :: .junk :: .junk :: .junk :: .junk :: .junk :: .junk :: .junk :: .junk :: .junk :: .junk :: .junk :: .junk :: .junk :: .junk :: .junk :: .junk :: .junk :: .junk :: .junk :: .junk :: .junk :: .junk :: .junk :: .junk :: .junk :: .junk :: .junk :: .junk :: .junk :: .junk :: .junk :: .junk :: .junk :: .junk :: .junk :: .junk :: .junk :: .junk :: .junk :: .junk :: .junk :: .junk :: .junk :: .junk :: .junk :: .junk :: .junk :: .junk :: .junk :: .junk :: .junk :: .junk :: .junk :: .junk :: .junk :: .junk :: .junk :: .junk :: .junk :: .junk :: .junk :: [],[]⟩)|(.inr _)=>(.exit 2,⟨.junk :: .fptr true [.list 1 (v1.map e_Li_),.v (.int .i64 v2)] 0 :: .junk :: .v (.int .i64 v5) :: .junk :: .junk :: .junk :: .junk :: .junk :: .junk :: .junk :: .junk :: .junk :: .junk :: .junk :: .junk :: .junk :: .junk :: .junk :: .junk :: .junk :: .junk :: .junk :: .junk :: .junk :: .junk :: .junk :: .junk :: .junk :: .junk :: .junk :: .junk :: .junk :: .junk :: .junk :: .junk :: .junk :: .junk :: .junk :: .junk :: .junk :: .junk :: .junk :: .junk :: .junk :: .junk :: .junk :: .junk :: .junk :: .junk :: .junk :: .junk :: .junk :: .junk :: .junk :: .junk :: .junk :: .junk :: .junk :: .junk :: .junk :: .junk :: .junk :: .junk :: .junk :: .junk :: .junk :: .junk :: [],[]⟩)) ?_ ?_ ?_ ?_
                  · rintro v15 v0 hr
                    dsimp only [ref07_CheckTask_l2] at hr
                    try dsimp only
                    refine wC T (g:=?_)
                    rcases ifs hr with ⟨h25,hr⟩|⟨h25,hr⟩
                    · have T:=an h25 T
                      refine wA T (g:=?_)
                      obtain ⟨v18,h26,hr⟩:=bs hr
                      have T:=an (gx e_i h26) T
                      refine wA T (g:=?_)
                      obtain ⟨v19,h27,hr⟩:=bs hr
                      apply TO.cal (wn T) rfl goFn17 (base_Within_spec h27) rfl rfl rfl
                      repeat exact sd T
                      refine wa_ T (g:=?_)
                      apply TO.pop1 (wn T) (pop_not rfl)
                      repeat exact sd T
                      refine wa_ T (g:=?_)
                      rcases ifs hr with ⟨h28,hr⟩|⟨h28,hr⟩
                      · have T:=an h28 T
                        refine wa_ T (g:=?_)
                        cases hr
                        refine ⟨rfl,?_⟩
                        exact wk_ T [] rfl .nil
                      · have T:=an h28 T
                        refine wa_ T (g:=?_)
                        cases hr
                        refine ⟨rfl,?_⟩
                        exact wk_ T [] rfl .nil
                    · have T:=an h25 T
                      refine wa_ T (g:=?_)
                      cases hr
                      refine ⟨rfl,?_⟩
                      exact wk_ T [] rfl .nil
                  · intro e h;rcases e with _|e<;>cases h
                  · try dsimp only
                    rcases v20 with _|_
                    · try dsimp only at hr
                      try dsimp only
                      refine wa_ T (g:=?_)
                      cases hr
                      refine ⟨rfl,?_⟩
                      exact wk_ T [] rfl .nil
                    · try dsimp only at hr
                      try dsimp only
                      refine wa_ T (g:=?_)
                      cases hr
                      refine ⟨rfl,?_⟩
                      exact wk_ T [] rfl .nil
                  · try dsimp only
                    exact wk_ T [] rfl .nil
              · have T:=an h18 T
                refine wa_ T (g:=?_)
                cases hr
                refine ⟨rfl,?_⟩
                exact wk_ T [] rfl .nil
            · intro e h;rcases e with _|e<;>cases h
            · try dsimp only
              rcases v21 with v22|_
              · try dsimp only at hr
                try dsimp only
                refine wa_ T (g:=?_)
                cases hr
                refine ⟨.inr rfl,_,(ry T),?_⟩
                exact wk_ T [] rfl .nil
              · try dsimp only at hr
                try dsimp only
                refine wA T (g:=?_)
                obtain ⟨v23,h31,hr⟩:=bs hr
                apply TO.cal (wn T) rfl goFn17 (base_Within_spec h31) rfl rfl rfl
                repeat exact sd T
                refine wa_ T (g:=?_)
                apply TO.pop1 (wn T) (pop_not rfl)
                repeat exact sd T
                refine wa_ T (g:=?_)
                rcases ifs hr with ⟨h32,hr⟩|⟨h32,hr⟩
                · have T:=an h32 T
                  refine wa_ T (g:=?_)
                  cases hr
                  refine ⟨.inr rfl,_,(ry T),?_⟩
                  exact wk_ T [] rfl .nil
                · have T:=an h32 T
                  refine wa_ T (g:=?_)
                  cases hr
                  refine ⟨.inr rfl,_,(ry T),?_⟩
                  exact wk_ T [] rfl .nil
            · try dsimp only
              exact wk_ T [] rfl .nil
  rfl

end Go.Rex

namespace Go.Rex
open Go.Proofs
open Go Go.Rex Go.RowKit
set_option maxRecDepth 100000
set_option maxHeartbeats 200000
def y44:=an @ag86 <| an @cs86 <| an @ok86 <| an @st158 <| @zc158
theorem array_CheckTask_spec {v1 : (List (List Int))} {v2 : Int} {v3 : Int} (hr : array_CheckTask v1 v2 = some (v3)) : Spec (lim Tryz.prog) 56 [.agg [.list 1 (v1.map e_Li_),.v (.int .i64 v2)]] ⟨[.v (.int .i64 v3)],[]⟩:=by
  unfold array_CheckTask at hr
  have T:=an y44 <| @e_Li_.eq_1
  apply Spec.fn Tryz.func56 rfl
  focus (simp [Tryz.f56]<;>exact rfl)
  focus
    refine wB T (g:=?_)
    obtain ⟨v4,h1,hr⟩:=bs hr
    apply TO.cal (wn T) rfl goFn103 (array_task_check_spec h1) rfl rfl rfl
    repeat exact sd T
    refine wa_ T (g:=?_)
    cases hr
    refine ⟨.inr rfl,_,(ry T),?_⟩
    exact wr [] rfl .nil
  rfl

end Go.Rex

namespace Go.Rex
open Go.Proofs
open Go Go.Rex Go.RowKit
set_option maxRecDepth 100000
set_option maxHeartbeats 200000
def y45:=an @ag3 <| an @cs3 <| an @ok3 <| an @so87 <| @wi64_0a1
theorem ref07_within_spec {v1 : (List Int)} {v2 : Int} {v3 : Bool} (hr : ref07_within v1 v2 = some (v3)) : Spec (lim Tryz.prog) 114 [.list 1 (v1.map e_i),.v (.int .i64 v2)] ⟨[.v (.bool v3)],[]⟩:=by
  unfold ref07_within at hr
  have T:=an y45 <| @e_i.eq_1
  apply Spec.fn Tryz.func114 rfl
  focus (simp [Tryz.f114]<;>exact rfl)
  focus
    refine wa_ T (g:=?_)
    obtain ⟨v9,h9,hr⟩:=bs hr
    refine TX.loopE (step:=ref07_within_l1 v1 v2) (x:=0) h9 (fun v4=>⟨.list 1 (v1.map e_i) :: .v (.int .i64 v2) :: .junk :: .junk :: .junk :: .v (.int .i64 v4) :: .junk :: .junk :: .junk :: .junk :: .junk :: .junk :: .junk :: .junk :: .junk :: .junk :: .junk :: .junk :: .junk :: [],[]⟩) (fun e=>match e with|(.inl _)=>(.ret,⟨.junk :: .junk :: .junk :: .junk :: .v (.bool false) :: .junk :: .junk :: .junk :: .junk :: .junk :: .junk :: .junk :: .junk :: .junk :: .junk :: .junk :: .junk :: .junk :: .junk :: [],[]⟩)|(.inr _)=>(.exit 0,⟨.junk :: .junk :: .junk :: .junk :: .junk :: .junk :: .junk :: .junk :: .junk :: .junk :: .junk :: .junk :: .junk :: .junk :: .junk :: .junk :: .junk :: .junk :: .junk :: [],[]⟩)) ?_ ?_ ?_ ?_
    · rintro v4 v0 hr
      dsimp only [ref07_within_l1] at hr
      try dsimp only
      refine wc_ T (g:=?_)
      rcases ifs hr with ⟨h5,hr⟩|⟨h5,hr⟩
      · have T:=an h5 T
        refine wa_ T (g:=?_)
        obtain ⟨v7,h6,hr⟩:=bs hr
        have T:=an (gx e_i h6) T
        refine wA T (g:=?_)
        obtain ⟨v8,h7,hr⟩:=bs hr
        apply TO.cal (wn T) rfl goFn17 (base_Within_spec h7) rfl rfl rfl
        repeat exact sd T
        refine wa_ T (g:=?_)
        apply TO.pop1 (wn T) (pop_not rfl)
        repeat exact sd T
        refine wa_ T (g:=?_)
        rcases ifs hr with ⟨h8,hr⟩|⟨h8,hr⟩
        · have T:=an h8 T
          refine wa_ T (g:=?_)
          cases hr
          refine ⟨rfl,?_⟩
          exact wk_ T [] rfl .nil
        · have T:=an h8 T
          refine wa_ T (g:=?_)
          cases hr
          refine ⟨rfl,?_⟩
          exact wk_ T [] rfl .nil
      · have T:=an h5 T
        refine wa_ T (g:=?_)
        cases hr
        refine ⟨rfl,?_⟩
        exact wk_ T [] rfl .nil
    · intro e h;rcases e with _|e<;>cases h
    · try dsimp only
      rcases v9 with _|_
      · try dsimp only at hr
        try dsimp only
        refine wa_ T (g:=?_)
        cases hr
        refine ⟨.inr rfl,_,(ry T),?_⟩
        exact wr [] rfl .nil
      · try dsimp only at hr
        try dsimp only
        refine wa_ T (g:=?_)
        cases hr
        refine ⟨.inr rfl,_,(ry T),?_⟩
        exact wr [] rfl .nil
    · try dsimp only
      exact wr [] rfl .nil
  rfl

end Go.Rex
