/- Proofs that the program's functions do what these plain functions say. -/
import Derived.Test.YtoanhpogfilnoaaGreatDoorGB
import Derived.Test.YtoanhpogfilnoaaGreatDoorS
import Derived.Test.YtoanhpogfilnoaaGreatDoorCZ
set_option linter.unusedSimpArgs false
set_option linter.unusedVariables false
set_option linter.defProp false
namespace Go.Rex
open Go.Proofs
open Go Go.Rex Go.RowKit
set_option maxRecDepth 100000
set_option maxHeartbeats 200000
def y1:=@so22
theorem law10_fewLevels_spec {v1 : (List Int)} {v2 : Bool} (hr : law10_fewLevels v1 = some (v2)) : Spec (lim Tryz.prog) 7 [.list 1 (v1.map e_i)] ⟨[.v (.bool v2)],[]⟩:=by
  unfold law10_fewLevels at hr
  have T:=an y1 <| @e_i.eq_1
  apply Spec.fn Tryz.func7 rfl
  focus (simp [Tryz.f7]<;>exact rfl)
  focus
    refine wc_ T (g:=?_)
    cases hr
    refine ⟨.inr rfl,_,(ry T),?_⟩
    exact wr [] rfl .nil
  rfl

end Go.Rex

namespace Go.Rex
open Go.Proofs
open Go Go.Rex Go.RowKit
set_option maxRecDepth 100000
set_option maxHeartbeats 1000000
def y2:=an @ag22 <| an @cs45 <| an @fd45_1 <| an @ok45 <| an @so36 <| @wi64_0a1
theorem law10_fewMoves_spec {v1 : (List (Int × (List Int) × Int))} {v2 : Bool} (hr : law10_fewMoves v1 = some (v2)) : Spec (lim Tryz.prog) 14 [.list 3 (v1.map e_iLi_i)] ⟨[.v (.bool v2)],[]⟩:=by
  unfold law10_fewMoves at hr
  have T:=an y2 <| an @e_i.eq_1 <| @e_iLi_i.eq_1
  apply Spec.fn Tryz.func14 rfl
  focus (simp [Tryz.f14]<;>exact rfl)
  focus
    refine wc_ T (g:=?_)
    rcases ifs hr with ⟨h1,hr⟩|⟨h1,hr⟩
    · have T:=an h1 T
      refine wc_ T (g:=?_)
      rcases ifs hr with ⟨h2,hr⟩|⟨h2,hr⟩
      · have T:=an h2 T
        refine wa_ T (g:=?_)
        cases hr
        refine ⟨.inr rfl,_,(ry T),?_⟩
        exact wk_ T [] rfl .nil
      · have T:=an h2 T
        refine wc_ T (g:=?_)
        rcases ifs hr with ⟨h3,hr⟩|⟨h3,hr⟩
        · have T:=an h3 T
          refine wa_ T (g:=?_)
          cases hr
          refine ⟨.inr rfl,_,(ry T),?_⟩
          exact wk_ T [] rfl .nil
        · have T:=an h3 T
          refine wa_ T (g:=?_)
          obtain ⟨v12,h12,hr⟩:=bs hr
          refine TX.loopE (step:=law10_fewMoves_l1 v1) (x:=0) h12 (fun v3=>⟨.list 3 (v1.map e_iLi_i) :: .junk :: .junk :: .v (.int .i64 v3) :: .junk :: .junk :: .junk :: .junk :: .junk :: .junk :: .junk :: .junk :: .junk :: .junk :: .junk :: .junk :: .junk :: .junk :: .junk :: .junk :: .junk :: .junk :: .junk :: .junk :: .junk :: .junk :: .junk :: .junk :: .junk :: .junk :: [],[]⟩) (fun e=>match e with|(.inl _)=>(.ret,⟨.junk :: .junk :: .v (.bool false) :: .junk :: .junk :: .junk :: .junk :: .junk :: .junk :: .junk :: .junk :: .junk :: .junk :: .junk :: .junk :: .junk :: .junk :: .junk :: .junk :: .junk :: .junk :: .junk :: .junk :: .junk :: .junk :: .junk :: .junk :: .junk :: .junk :: .junk :: [],[]⟩)|(.inr _)=>(.exit 0,⟨.junk :: .junk :: .junk :: .junk :: .junk :: .junk :: .junk :: .junk :: .junk :: .junk :: .junk :: .junk :: .junk :: .junk :: .junk :: .junk :: .junk :: .junk :: .junk :: .junk :: .junk :: .junk :: .junk :: .junk :: .junk :: .junk :: .junk :: .junk :: .junk :: .junk :: [],[]⟩)) ?_ ?_ ?_ ?_
          · rintro v3 v0 hr
            dsimp only [law10_fewMoves_l1] at hr
            try dsimp only
            refine wc_ T (g:=?_)
            rcases ifs hr with ⟨h8,hr⟩|⟨h8,hr⟩
            · have T:=an h8 T
              refine wa_ T (g:=?_)
              obtain ⟨⟨v8,v9,v10⟩,h9,hr⟩:=bs hr
              try dsimp only at hr
              have T:=an (gx e_iLi_i h9) T
              refine wA T (g:=?_)
              obtain ⟨v11,h10,hr⟩:=bs hr
              apply TO.cal (wn T) rfl goFn7 (law10_fewLevels_spec h10) rfl rfl rfl
              repeat exact sd T
              refine wa_ T (g:=?_)
              apply TO.pop1 (wn T) (pop_not rfl)
              repeat exact sd T
              refine wa_ T (g:=?_)
              rcases ifs hr with ⟨h11,hr⟩|⟨h11,hr⟩
              · have T:=an h11 T
                refine wa_ T (g:=?_)
                cases hr
                refine ⟨rfl,?_⟩
                exact wk_ T [] rfl .nil
              · have T:=an h11 T
                refine wa_ T (g:=?_)
                cases hr
                refine ⟨rfl,?_⟩
                exact wk_ T [] rfl .nil
            · have T:=an h8 T
              refine wa_ T (g:=?_)
              cases hr
              refine ⟨rfl,?_⟩
              exact wk_ T [] rfl .nil
          · intro e h;rcases e with _|e<;>cases h
          · try dsimp only
            rcases v12 with _|_
            · try dsimp only at hr
              try dsimp only
              refine wa_ T (g:=?_)
              cases hr
              refine ⟨.inr rfl,_,(ry T),?_⟩
              exact wk_ T [] rfl .nil
            · try dsimp only at hr
              try dsimp only
              refine wa_ T (g:=?_)
              cases hr
              refine ⟨.inr rfl,_,(ry T),?_⟩
              exact wk_ T [] rfl .nil
          · try dsimp only
            exact wk_ T [] rfl .nil
    · have T:=an h1 T
      refine wc_ T (g:=?_)
      rcases ifs hr with ⟨h13,hr⟩|⟨h13,hr⟩
      · have T:=an h13 T
        refine wa_ T (g:=?_)
        cases hr
        refine ⟨.inr rfl,_,(ry T),?_⟩
        exact wk_ T [] rfl .nil
      · have T:=an h13 T
        refine wa_ T (g:=?_)
        obtain ⟨v22,h22,hr⟩:=bs hr
        refine TX.loopE (step:=law10_fewMoves_l2 v1) (x:=0) h22 (fun v13=>⟨.list 3 (v1.map e_iLi_i) :: .junk :: .junk :: .v (.int .i64 v13) :: .junk :: .junk :: .junk :: .junk :: .junk :: .junk :: .junk :: .junk :: .junk :: .junk :: .junk :: .junk :: .junk :: .junk :: .junk :: .junk :: .junk :: .junk :: .junk :: .junk :: .junk :: .junk :: .junk :: .junk :: .junk :: .junk :: [],[]⟩) (fun e=>match e with|(.inl _)=>(.ret,⟨.junk :: .junk :: .v (.bool false) :: .junk :: .junk :: .junk :: .junk :: .junk :: .junk :: .junk :: .junk :: .junk :: .junk :: .junk :: .junk :: .junk :: .junk :: .junk :: .junk :: .junk :: .junk :: .junk :: .junk :: .junk :: .junk :: .junk :: .junk :: .junk :: .junk :: .junk :: [],[]⟩)|(.inr _)=>(.exit 0,⟨.junk :: .junk :: .junk :: .junk :: .junk :: .junk :: .junk :: .junk :: .junk :: .junk :: .junk :: .junk :: .junk :: .junk :: .junk :: .junk :: .junk :: .junk :: .junk :: .junk :: .junk :: .junk :: .junk :: .junk :: .junk :: .junk :: .junk :: .junk :: .junk :: .junk :: [],[]⟩)) ?_ ?_ ?_ ?_
        · rintro v13 v0 hr
          dsimp only [law10_fewMoves_l2] at hr
          try dsimp only
          refine wc_ T (g:=?_)
          rcases ifs hr with ⟨h18,hr⟩|⟨h18,hr⟩
          · have T:=an h18 T
            refine wa_ T (g:=?_)
            obtain ⟨⟨v18,v19,v20⟩,h19,hr⟩:=bs hr
            try dsimp only at hr
            have T:=an (gx e_iLi_i h19) T
            refine wA T (g:=?_)
            obtain ⟨v21,h20,hr⟩:=bs hr
            apply TO.cal (wn T) rfl goFn7 (law10_fewLevels_spec h20) rfl rfl rfl
            repeat exact sd T
            refine wa_ T (g:=?_)
            apply TO.pop1 (wn T) (pop_not rfl)
            repeat exact sd T
            refine wa_ T (g:=?_)
            rcases ifs hr with ⟨h21,hr⟩|⟨h21,hr⟩
            · have T:=an h21 T
              refine wa_ T (g:=?_)
              cases hr
              refine ⟨rfl,?_⟩
              exact wk_ T [] rfl .nil
            · have T:=an h21 T
              refine wa_ T (g:=?_)
              cases hr
              refine ⟨rfl,?_⟩
              exact wk_ T [] rfl .nil
          · have T:=an h18 T
            refine wa_ T (g:=?_)
            cases hr
            refine ⟨rfl,?_⟩
            exact wk_ T [] rfl .nil
        · intro e h;rcases e with _|e<;>cases h
        · try dsimp only
          rcases v22 with _|_
          · try dsimp only at hr
            try dsimp only
            refine wa_ T (g:=?_)
            cases hr
            refine ⟨.inr rfl,_,(ry T),?_⟩
            exact wk_ T [] rfl .nil
          · try dsimp only at hr
            try dsimp only
            refine wa_ T (g:=?_)
            cases hr
            refine ⟨.inr rfl,_,(ry T),?_⟩
            exact wk_ T [] rfl .nil
        · try dsimp only
          exact wk_ T [] rfl .nil
  rfl

end Go.Rex

namespace Go.Rex
open Go.Proofs
open Go Go.Rex Go.RowKit
set_option maxRecDepth 100000
set_option maxHeartbeats 200000
def y3:=an @by3 <| an @cs3 <| an @ni22 <| an @so22 <| @zc3
theorem base_CopyInts_spec {v1 : (List Int)} {v2 : (List Int)} (hr : base_CopyInts v1 = some (v2)) : Spec (lim Tryz.prog) 9 [.list 1 (v1.map e_i)] ⟨[.lsl 0 0 v2.length],[.rows 1 (v2.map e_i)]⟩:=by
  unfold base_CopyInts at hr
  have T:=an y3 <| @e_i.eq_1
  apply Spec.fn Tryz.func9 rfl
  focus (simp [Tryz.f9]<;>exact rfl)
  focus
    refine wa_ T (g:=?_)
    apply TO.bl e_i ([] : List Int) (wn T) rfl (by simp only [zz,y3,e_i,Nat.reduceAdd,Nat.reduceMul,Nat.reduceLeDiff,Nat.reduceEqDiff,tslice,tparts];exact rfl) rfl rfl
    repeat exact sd T
    refine wa_ T (g:=?_)
    obtain ⟨v3,h1,hr⟩:=bs hr
    apply TO.ap (f:=e_i) (xs:=([] : List Int)) (ys:=v1) (wn T) rfl rfl (by first|rfl|simp only [List.length_set]) rfl rfl so22 ni22 zc3 rfl (by rw [by3];exact h1) (fun _=>⟨rfl,rfl,rfl⟩)
    repeat exact sd T
    refine wa_ T (g:=?_)
    cases hr
    refine ⟨.inr rfl,_,(ry T),?_⟩
    exact wr [some 0] rfl (.rows .nil rfl rfl)
  rfl

end Go.Rex

namespace Go.Rex
open Go.Proofs
open Go Go.Rex Go.RowKit
set_option maxRecDepth 100000
set_option maxHeartbeats 200000
def y4:=an @ag22 <| an @ag3 <| an @by45 <| an @cs45 <| an @fd45_0 <| an @fd45_1 <| an @fd45_2 <| an @ni36 <| an @ok45 <| an @so36 <| an @st45 <| an @zc45 <| @wi64_0a1
theorem ref10_CopyMoves_spec {v1 : (List (Int × (List Int) × Int))} {v2 : (List (Int × (List Int) × Int))} (hr : ref10_CopyMoves v1 = some (v2)) : Spec (lim Tryz.prog) 16 [.list 3 (v1.map e_iLi_i)] ⟨[.lsl 0 0 v2.length],[.rows 3 (v2.map e_iLi_i)]⟩:=by
  unfold ref10_CopyMoves at hr
  have T:=an y4 <| @e_iLi_i.eq_1
  apply Spec.fn Tryz.func16 rfl
  focus (simp [Tryz.f16]<;>exact rfl)
  focus
    refine wa_ T (g:=?_)
    apply TX.vt (α:=(Int × (List Int) × Int)) e_iLi_i 3 3 rfl
    repeat exact sd T
    with_reducible apply TX.here
    refine wa_ T (g:=?_)
    obtain ⟨v16,h9,hr⟩:=bs hr
    refine TX.loopE (step:=ref10_CopyMoves_l1 v1) (x:=(([] : List (Int × (List Int) × Int)),0)) h9 (fun (v3,v4)=>⟨.list 3 (v1.map e_iLi_i) :: .junk :: .junk :: .lsl 0 0 v3.length :: .v (.int .i64 v4) :: .junk :: .junk :: .junk :: .junk :: .junk :: .junk :: .junk :: .junk :: .junk :: .junk :: .junk :: .junk :: .junk :: .junk :: .junk :: .junk :: .junk :: .junk :: .junk :: .junk :: .junk :: .junk :: .junk :: .junk :: .junk :: .junk :: .junk :: [],[.rows 3 (v3.map e_iLi_i)]⟩) (fun v10=>(.exit 0,⟨.junk :: .junk :: .junk :: .lsl 0 0 v10.length :: .junk :: .junk :: .junk :: .junk :: .junk :: .junk :: .junk :: .junk :: .junk :: .junk :: .junk :: .junk :: .junk :: .junk :: .junk :: .junk :: .junk :: .junk :: .junk :: .junk :: .junk :: .junk :: .junk :: .junk :: .junk :: .junk :: .junk :: .junk :: [],[.rows 3 (v10.map e_iLi_i)]⟩)) ?_ ?_ ?_ ?_
    · rintro ⟨v3,v4⟩ v0 hr
      dsimp only [ref10_CopyMoves_l1] at hr
      try dsimp only
      refine wc_ T (g:=?_)
      rcases ifs hr with ⟨h5,hr⟩|⟨h5,hr⟩
      · have T:=an h5 T
        refine wa_ T (g:=?_)
        obtain ⟨⟨v11,v12,v13⟩,h6,hr⟩:=bs hr
        try dsimp only at hr
        have h6m:=tidx_map (f:=e_iLi_i) h6
        have h6l:=getI_lt h6
        try simp only [List.length_set] at h6l
        have h6a:=getI_at h6
        have T:=an h6m T
        have T:=an h6l T
        have T:=an h6a T
        refine wA T (g:=?_)
        obtain ⟨v14,h7,hr⟩:=bs hr
        apply TD.cal (wn T) rfl goFn9 (base_CopyInts_spec h7) rfl rfl rfl
        repeat exact sd T
        refine wA T (g:=?_)
        apply TD.frz 1 rfl rfl
        repeat exact sd T
        refine wa_ T (g:=?_)
        apply TD.bm e_iLi_i ([(v11,v14,v13)] : List (Int × (List Int) × Int)) (wn T) rfl (by simp only [zz,y4,e_iLi_i,Nat.reduceAdd,Nat.reduceMul,Nat.reduceLeDiff,Nat.reduceEqDiff,tslice,tparts,h5,h6m,h6l,h6a];exact rfl) rfl
        repeat exact sd T
        refine wa_ T (g:=?_)
        obtain ⟨v15,h8,hr⟩:=bs hr
        apply TD.ap (f:=e_iLi_i) (xs:=v3) (ys:=([(v11,v14,v13)] : List (Int × (List Int) × Int))) (wn T) rfl rfl (by first|rfl|simp only [List.length_set]) rfl rfl so36 ni36 zc45 rfl (by rw [by45];exact h8) (fun _=>⟨rfl,rfl,rfl⟩) rfl
        repeat exact sd T
        refine wa_ T (g:=?_)
        cases hr
        refine ⟨rfl,?_⟩
        exact wk_ T [some 0] rfl (.rows .nil rfl rfl)
      · have T:=an h5 T
        refine wa_ T (g:=?_)
        cases hr
        refine ⟨rfl,?_⟩
        exact wk_ T [some 0] rfl (.rows .nil rfl rfl)
    · intro e h;cases h
    · try dsimp only
      refine wa_ T (g:=?_)
      cases hr
      refine ⟨.inr rfl,_,(ry T),?_⟩
      exact wr [some 0] rfl (.rows .nil rfl rfl)
    · try dsimp only
      exact wr [some 0] rfl (.rows .nil rfl rfl)
  rfl

end Go.Rex

namespace Go.Rex
open Go.Proofs
open Go Go.Rex Go.RowKit
set_option maxRecDepth 100000
set_option maxHeartbeats 200000
theorem show_isWithin_spec {v1 : Int} {v2 : Int} {v3 : Int} {v4 : Bool} (hr : show_isWithin v1 v2 v3 = some (v4)) : Spec (lim Tryz.prog) 54 [.v (.int .i64 v1),.v (.int .i64 v2),.v (.int .i64 v3)] ⟨[.v (.bool v4)],[]⟩:=by
  unfold show_isWithin at hr
  have T:=trivial
  apply Spec.fn Tryz.func54 rfl
  focus (simp [Tryz.f54]<;>exact rfl)
  focus
    refine wa_ T (g:=?_)
    rcases ifs hr with ⟨h1,hr⟩|⟨h1,hr⟩
    · have T:=an h1 T
      refine wa_ T (g:=?_)
      cases hr
      refine ⟨.inr rfl,_,(ry T),?_⟩
      exact wk_ T [] rfl .nil
    · have T:=an h1 T
      refine wa_ T (g:=?_)
      cases hr
      refine ⟨.inr rfl,_,(ry T),?_⟩
      exact wk_ T [] rfl .nil
  rfl

end Go.Rex

namespace Go.Rex
open Go.Proofs
open Go Go.Rex Go.RowKit
set_option maxRecDepth 100000
set_option maxHeartbeats 200000
theorem show_refuse_spec {v1 : Bool} {v2 : Int} {v3 : Bool} {v4 : Int} (hr : show_refuse v1 v2 = some (v3,v4)) : Spec (lim Tryz.prog) 30 [.v (.bool v1),.v (.int .i64 v2)] ⟨[.func 56 [] [.fptr true [.v (.bool v3)] 0,.fptr true [.v (.int .i64 v4)] 0]],[]⟩:=by
  unfold show_refuse at hr
  have T:=trivial
  apply Spec.fn Tryz.func30 rfl
  focus (simp [Tryz.f30]<;>exact rfl)
  focus
    refine wb_ T (g:=?_)
    cases hr
    refine ⟨.inr rfl,_,(ry T),?_⟩
    exact wr [] rfl .nil
  rfl

end Go.Rex

namespace Go.Rex
open Go.Proofs
open Go Go.Rex Go.RowKit
set_option maxRecDepth 100000
set_option maxHeartbeats 200000
theorem show_within_spec {v1 : Int} {v2 : Int} {v3 : Int} {v4 : Bool} {v5 : Int} (hr : show_within v1 v2 v3 = some (v4,v5)) : Spec (lim Tryz.prog) 32 [.v (.int .i64 v1),.v (.int .i64 v2),.v (.int .i64 v3)] ⟨[.func 56 [] [.fptr true [.v (.bool v4)] 0,.fptr true [.v (.int .i64 v5)] 0]],[]⟩:=by
  unfold show_within at hr
  have T:=trivial
  apply Spec.fn Tryz.func32 rfl
  focus (simp [Tryz.f32]<;>exact rfl)
  focus
    refine wa_ T (g:=?_)
    obtain ⟨v6,h1,hr⟩:=bs hr
    apply TO.cal (wn T) rfl goFn54 (show_isWithin_spec h1) rfl rfl rfl
    repeat exact sd T
    refine wa_ T (g:=?_)
    apply TO.pop1 (wn T) (pop_not rfl)
    repeat exact sd T
    refine wa_ T (g:=?_)
    obtain ⟨⟨v7,v8⟩,h2,hr⟩:=bs hr
    try dsimp only at hr
    apply TO.cal (wn T) rfl goFn30 (show_refuse_spec h2) rfl rfl rfl
    repeat exact sd T
    refine wa_ T (g:=?_)
    cases hr
    refine ⟨.inr rfl,_,(ry T),?_⟩
    exact wr [] rfl .nil
  rfl

end Go.Rex

namespace Go.Rex
open Go.Proofs
open Go Go.Rex Go.RowKit
set_option maxRecDepth 100000
set_option maxHeartbeats 200000
theorem show_ticked_spec {v1 : Int} {v2 : Bool} {v3 : Int} (hr : show_ticked v1 = some (v2,v3)) : Spec (lim Tryz.prog) 39 [.v (.int .i64 v1)] ⟨[.func 56 [] [.fptr true [.v (.bool v2)] 0,.fptr true [.v (.int .i64 v3)] 0]],[]⟩:=by
  unfold show_ticked at hr
  have T:=trivial
  apply Spec.fn Tryz.func39 rfl
  focus (simp [Tryz.f39]<;>exact rfl)
  focus
    refine wa_ T (g:=?_)
    obtain ⟨⟨v4,v5⟩,h1,hr⟩:=bs hr
    try dsimp only at hr
    apply TO.cal (wn T) rfl goFn32 (show_within_spec h1) rfl rfl rfl
    repeat exact sd T
    refine wa_ T (g:=?_)
    cases hr
    refine ⟨.inr rfl,_,(ry T),?_⟩
    exact wr [] rfl .nil
  rfl

end Go.Rex

namespace Go.Rex
open Go.Proofs
open Go Go.Rex Go.RowKit
set_option maxRecDepth 100000
set_option maxHeartbeats 200000
theorem show_leveled_spec {v1 : (List Int)} {v2 : (List Int)} (hr : show_leveled v1 = some (v2)) : Spec (lim Tryz.prog) 29 [.list 1 (v1.map e_i)] ⟨[.func 53 [] [.fptr true [.list 1 (v2.map e_i)] 0]],[]⟩:=by
  unfold show_leveled at hr
  have T:=@e_i.eq_1
  apply Spec.fn Tryz.func29 rfl
  focus (simp [Tryz.f29]<;>exact rfl)
  focus
    refine wb_ T (g:=?_)
    cases hr
    refine ⟨.inr rfl,_,(ry T),?_⟩
    exact wr [] rfl .nil
  rfl

end Go.Rex

namespace Go.Rex
open Go.Proofs
open Go Go.Rex Go.RowKit
set_option maxRecDepth 100000
set_option maxHeartbeats 200000
theorem show_stepped_spec {v1 : Int} {v2 : Bool} {v3 : Int} (hr : show_stepped v1 = some (v2,v3)) : Spec (lim Tryz.prog) 31 [.v (.int .i64 v1)] ⟨[.func 56 [] [.fptr true [.v (.bool v2)] 0,.fptr true [.v (.int .i64 v3)] 0]],[]⟩:=by
  unfold show_stepped at hr
  have T:=trivial
  apply Spec.fn Tryz.func31 rfl
  focus (simp [Tryz.f31]<;>exact rfl)
  focus
    refine wa_ T (g:=?_)
    obtain ⟨⟨v4,v5⟩,h1,hr⟩:=bs hr
    try dsimp only at hr
    apply TO.cal (wn T) rfl goFn32 (show_within_spec h1) rfl rfl rfl
    repeat exact sd T
    refine wa_ T (g:=?_)
    cases hr
    refine ⟨.inr rfl,_,(ry T),?_⟩
    exact wr [] rfl .nil
  rfl

end Go.Rex

namespace Go.Rex
open Go.Proofs
open Go Go.Rex Go.RowKit
set_option maxRecDepth 100000
set_option maxHeartbeats 200000
def y5:=an @ag27 <| @ag4
theorem show_refuse_c1_11f9_spec {v1 : Bool} {v2 : Int} {v3 : Int} (hr : show_refuse_c1_11f9 v1 v2 = some (v3)) : Spec (lim Tryz.prog) 56 [.fptr true [.v (.bool v1)] 0,.fptr true [.v (.int .i64 v2)] 0] ⟨[.v (.int .i64 v3)],[]⟩:=by
  unfold show_refuse_c1_11f9 at hr
  have T:=y5
  apply Spec.fn Tryz.func56 rfl
  focus (simp [Tryz.f56]<;>exact rfl)
  focus
    refine wA T (g:=?_)
    rcases ifs hr with ⟨h1,hr⟩|⟨h1,hr⟩
    · have T:=an h1 T
      refine wA T (g:=?_)
      cases hr
      refine ⟨.inr rfl,_,(ry T),?_⟩
      exact wk_ T [] rfl .nil
    · have T:=an h1 T
      refine wa_ T (g:=?_)
      cases hr
      refine ⟨.inr rfl,_,(ry T),?_⟩
      exact wk_ T [] rfl .nil
  rfl

end Go.Rex

namespace Go.Rex
open Go.Proofs
open Go Go.Rex Go.RowKit
set_option maxRecDepth 100000
set_option maxHeartbeats 200000
def y6:=an @ag22 <| an @ag3 <| an @cs3 <| an @ok3 <| @so22
theorem show_leveled_c1_c1_9a9e_spec {v1 : Int} {v2 : (List Int)} {v3 : Int} (hr : show_leveled_c1_c1_9a9e v1 v2 = some (v3)) : Spec (lim Tryz.prog) 55 [.v (.int .i64 v1),.fptr true [.list 1 (v2.map e_i)] 0] ⟨[.v (.int .i64 v3)],[]⟩:=by
  unfold show_leveled_c1_c1_9a9e at hr
  have T:=an y6 <| @e_i.eq_1
  apply Spec.fn Tryz.func55 rfl
  focus (simp [Tryz.f55]<;>exact rfl)
  focus
    refine wA T (g:=?_)
    obtain ⟨v4,h1,hr⟩:=bs hr
    have T:=an (gx e_i h1) T
    refine wA T (g:=?_)
    obtain ⟨⟨v5,v6⟩,h2,hr⟩:=bs hr
    try dsimp only at hr
    apply TO.cal (wn T) rfl goFn32 (show_within_spec h2) rfl rfl rfl
    repeat exact sd T
    refine wa_ T (g:=?_)
    obtain ⟨v7,h3,hr⟩:=bs hr
    apply TO.cal (wn T) rfl goFn56 (show_refuse_c1_11f9_spec h3) rfl rfl rfl
    repeat exact sd T
    refine wa_ T (g:=?_)
    cases hr
    refine ⟨.inr rfl,_,(ry T),?_⟩
    exact wr [] rfl .nil
  rfl

end Go.Rex

namespace Go.Rex
open Go.Proofs
open Go Go.Rex Go.RowKit
set_option maxRecDepth 100000
set_option maxHeartbeats 200000
def y7:=@wi64_0a1
theorem show_firstWrong_22f8_spec {v1 : Int} {v2 : (List Int)} {v3 : Int} {v4 : Int} (hr : show_firstWrong_22f8 v1 v2 = some (v3,v4)) : Spec (lim Tryz.prog) 37 [.v (.int .i64 v1),.func 55 [] [.fptr true [.list 1 (v2.map e_i)] 0]] ⟨[.tuple [.v (.int .i64 v3),.v (.int .i64 v4)]],[]⟩:=by
  unfold show_firstWrong_22f8 at hr
  have T:=an y7 <| @e_i.eq_1
  apply Spec.fn Tryz.func37 rfl
  focus (simp [Tryz.f37]<;>exact rfl)
  focus
    refine wa_ T (g:=?_)
    obtain ⟨v10,h7,hr⟩:=bs hr
    refine TX.loopE (step:=show_firstWrong_22f8_l1 v1 v2) (x:=0) h7 (fun v5=>⟨.junk :: .func 55 [] [.fptr true [.list 1 (v2.map e_i)] 0] :: .junk :: .junk :: .junk :: .junk :: .junk :: .junk :: .v (.int .i64 v1) :: .v (.int .i64 v5) :: .junk :: .junk :: .junk :: .junk :: .junk :: .junk :: .junk :: .junk :: .junk :: .junk :: [],[]⟩) (fun e=>match e with|(.inl (v7,v8))=>(.ret,⟨.junk :: .junk :: .junk :: .junk :: .v (.int .i64 v7) :: .v (.int .i64 v8) :: .junk :: .junk :: .junk :: .junk :: .junk :: .junk :: .junk :: .junk :: .junk :: .junk :: .junk :: .junk :: .junk :: .junk :: [],[]⟩)|(.inr _)=>(.exit 0,⟨.junk :: .junk :: .junk :: .junk :: .junk :: .junk :: .junk :: .junk :: .junk :: .junk :: .junk :: .junk :: .junk :: .junk :: .junk :: .junk :: .junk :: .junk :: .junk :: .junk :: [],[]⟩)) ?_ ?_ ?_ ?_
    · rintro v5 v0 hr
      dsimp only [show_firstWrong_22f8_l1] at hr
      try dsimp only
      refine wa_ T (g:=?_)
      rcases ifs hr with ⟨h4,hr⟩|⟨h4,hr⟩
      · have T:=an h4 T
        refine wa_ T (g:=?_)
        obtain ⟨v9,h5,hr⟩:=bs hr
        apply TO.cal (wn T) rfl goFn55 (show_leveled_c1_c1_9a9e_spec h5) rfl rfl rfl
        repeat exact sd T
        refine wa_ T (g:=?_)
        rcases ifs hr with ⟨h6,hr⟩|⟨h6,hr⟩
        · have T:=an h6 T
          refine wa_ T (g:=?_)
          cases hr
          refine ⟨rfl,?_⟩
          exact wk_ T [] rfl .nil
        · have T:=an h6 T
          refine wa_ T (g:=?_)
          cases hr
          refine ⟨rfl,?_⟩
          exact wk_ T [] rfl .nil
      · have T:=an h4 T
        refine wa_ T (g:=?_)
        cases hr
        refine ⟨rfl,?_⟩
        exact wk_ T [] rfl .nil
    · intro e h;rcases e with _|e<;>cases h
    · try dsimp only
      rcases v10 with ⟨v11,v12⟩|_
      · try dsimp only at hr
        try dsimp only
        refine wa_ T (g:=?_)
        cases hr
        refine ⟨.inr rfl,_,(ry T),?_⟩
        exact wr [] rfl .nil
      · try dsimp only at hr
        try dsimp only
        refine wa_ T (g:=?_)
        cases hr
        refine ⟨.inr rfl,_,(ry T),?_⟩
        exact wr [] rfl .nil
    · try dsimp only
      exact wr [] rfl .nil
  rfl

end Go.Rex

namespace Go.Rex
open Go.Proofs
open Go Go.Rex Go.RowKit
set_option maxRecDepth 100000
set_option maxHeartbeats 200000
theorem show_unnumbered_spec {v1 : Int} {v2 : Int} {v3 : Int} (hr : show_unnumbered v1 v2 = some (v3)) : Spec (lim Tryz.prog) 40 [.v (.int .i64 v1),.v (.int .i64 v2)] ⟨[.func 59 [] [.fptr true [.v (.int .i64 v3)] 0]],[]⟩:=by
  unfold show_unnumbered at hr
  have T:=trivial
  apply Spec.fn Tryz.func40 rfl
  focus (simp [Tryz.f40]<;>exact rfl)
  focus
    refine wb_ T (g:=?_)
    cases hr
    refine ⟨.inr rfl,_,(ry T),?_⟩
    exact wr [] rfl .nil
  rfl

end Go.Rex

namespace Go.Rex
open Go.Proofs
open Go Go.Rex Go.RowKit
set_option maxRecDepth 100000
set_option maxHeartbeats 200000
def y8:=@ag27
theorem show_unnumbered_c1_662c_spec {v1 : Int} {v2 : Int} (hr : show_unnumbered_c1_662c v1 = some (v2)) : Spec (lim Tryz.prog) 59 [.fptr true [.v (.int .i64 v1)] 0] ⟨[.v (.int .i64 v2)],[]⟩:=by
  unfold show_unnumbered_c1_662c at hr
  have T:=y8
  apply Spec.fn Tryz.func59 rfl
  focus (simp [Tryz.f59]<;>exact rfl)
  focus
    refine wA T (g:=?_)
    cases hr
    refine ⟨.inr rfl,_,(ry T),?_⟩
    exact wr [] rfl .nil
  rfl

end Go.Rex

namespace Go.Rex
open Go.Proofs
open Go Go.Rex Go.RowKit
set_option maxRecDepth 100000
set_option maxHeartbeats 200000
def y9:=an @ag73 <| an @cs73 <| an @ok73 <| an @so98 <| an @wi64_0a1 <| @wi64_1a1
theorem show_firstError_e918_spec {v1 : Bool} {v2 : Int} {v3 : Int} {v4 : Int} (hr : show_firstError_e918 v1 v2 v3 = some (v4)) : Spec (lim Tryz.prog) 28 [.list 1 [[.func 56 [] [.fptr true [.v (.bool v1)] 0,.fptr true [.v (.int .i64 v2)] 0]],[.func 59 [] [.fptr true [.v (.int .i64 v3)] 0]]]] ⟨[.v (.int .i64 v4)],[]⟩:=by
  unfold show_firstError_e918 at hr
  have T:=y9
  apply Spec.fn Tryz.func28 rfl
  focus (simp [Tryz.f28]<;>exact rfl)
  focus
    refine wc_ T (g:=?_)
    refine TX.unroll ?_
    repeat (first|(with_reducible first|refine mv ?_|refine m12 rfl ?_|refine TO.nil ?_)|((with_reducible first|apply TO.bin|apply TO.ia|apply TO.ld|apply TO.asg|apply TO.mv);(repeat (focus (show _ = _;first|exact k1 rfl|exact k2 rfl|(simp only [zz,y9,Nat.reduceAdd,Nat.reduceMul,Nat.reduceLeDiff,Nat.reduceEqDiff,tindexAddr,z5,Int.reduceToNat,Int.reduceLE,Int.reduceLT,Int.cast_ofNat_Int,tload,rowOf,partT,List.getElem?_map]<;>exact rfl)|exact rfl)));(with_reducible apply TO.here))|((with_reducible apply TX.region);(focus (simp only [zl]<;>exact rfl));(focus rfl);(try dsimp only))|((with_reducible apply TX.cond_true);(focus rfl);(focus (first|rfl|(simp only [z1,zn];done))))|((with_reducible apply TX.cond_false);(focus rfl);(focus (first|rfl|(simp only [z1,zn];done))))|fail)
    obtain ⟨v5,h1,hr⟩:=bs hr
    apply TO.cal (wn T) rfl goFn56 (show_refuse_c1_11f9_spec h1) rfl rfl rfl
    repeat exact sd T
    refine wa_ T (g:=?_)
    rcases ifs hr with ⟨h2,hr⟩|⟨h2,hr⟩
    · have T:=an h2 T
      refine wa_ T (g:=?_)
      cases hr
      refine ⟨.inr rfl,_,(ry T),?_⟩
      exact wk_ T [] rfl .nil
    · have T:=an h2 T
      refine wa_ T (g:=?_)
      refine TX.unroll ?_
      repeat (first|(with_reducible first|refine mv ?_|refine m12 rfl ?_|refine TO.nil ?_)|((with_reducible first|apply TO.bin|apply TO.ia|apply TO.ld|apply TO.asg|apply TO.mv);(repeat (focus (show _ = _;first|exact k1 rfl|exact k2 rfl|(simp only [zz,y9,Nat.reduceAdd,Nat.reduceMul,Nat.reduceLeDiff,Nat.reduceEqDiff,tindexAddr,z5,Int.reduceToNat,Int.reduceLE,Int.reduceLT,Int.cast_ofNat_Int,tload,rowOf,partT,List.getElem?_map,h2]<;>exact rfl)|exact rfl)));(with_reducible apply TO.here))|((with_reducible apply TX.region);(focus (simp only [zl]<;>exact rfl));(focus rfl);(try dsimp only))|((with_reducible apply TX.cond_true);(focus rfl);(focus (first|rfl|(simp only [z1,zn,h2];done))))|((with_reducible apply TX.cond_false);(focus rfl);(focus (first|rfl|(simp only [z1,zn,h2];done))))|fail)
      obtain ⟨v6,h3,hr⟩:=bs hr
      apply TO.cal (wn T) rfl goFn59 (show_unnumbered_c1_662c_spec h3) rfl rfl rfl
      repeat exact sd T
      refine wa_ T (g:=?_)
      rcases ifs hr with ⟨h4,hr⟩|⟨h4,hr⟩
      · have T:=an h4 T
        refine wa_ T (g:=?_)
        cases hr
        refine ⟨.inr rfl,_,(ry T),?_⟩
        exact wk_ T [] rfl .nil
      · have T:=an h4 T
        refine wa_ T (g:=?_)
        refine TX.unroll ?_
        refine wa_ T (g:=?_)
        cases hr
        refine ⟨.inr rfl,_,(ry T),?_⟩
        exact wk_ T [] rfl .nil
  rfl

end Go.Rex

namespace Go.Rex
open Go.Proofs
open Go Go.Rex Go.RowKit
set_option maxRecDepth 100000
set_option maxHeartbeats 200000
def y10:=an @ag22 <| an @cs73 <| an @so22 <| an @so98 <| @zc73
theorem show_leveled_c1_fd95_spec {v1 : (List Int)} {v2 : Int} (hr : show_leveled_c1_fd95 v1 = some (v2)) : Spec (lim Tryz.prog) 53 [.fptr true [.list 1 (v1.map e_i)] 0] ⟨[.v (.int .i64 v2)],[]⟩:=by
  unfold show_leveled_c1_fd95 at hr
  have T:=an y10 <| @e_i.eq_1
  apply Spec.fn Tryz.func53 rfl
  focus (simp [Tryz.f53]<;>exact rfl)
  focus
    refine wC T (g:=?_)
    obtain ⟨v3,h1,hr⟩:=bs hr
    apply TD.cal (wn T) rfl goFn54 (show_isWithin_spec h1) rfl rfl rfl
    repeat exact sd T
    refine wa_ T (g:=?_)
    apply TD.pop1 (wn T) (pop_not rfl)
    repeat exact sd T
    refine wa_ T (g:=?_)
    obtain ⟨⟨v4,v5⟩,h2,hr⟩:=bs hr
    try dsimp only at hr
    apply TD.cal (wn T) rfl goFn30 (show_refuse_spec h2) rfl rfl rfl
    repeat exact sd T
    refine wC T (g:=?_)
    obtain ⟨⟨v6,v7⟩,h3,hr⟩:=bs hr
    try dsimp only at hr
    apply TD.cal (wn T) rfl goFn37 (show_firstWrong_22f8_spec h3) rfl rfl rfl
    repeat exact sd T
    refine wa_ T (g:=?_)
    obtain ⟨v8,h4,hr⟩:=bs hr
    apply TD.cal (wn T) rfl goFn40 (show_unnumbered_spec h4) rfl rfl rfl
    repeat exact sd T
    refine we_ T (g:=?_)
    obtain ⟨v9,h5,hr⟩:=bs hr
    apply TD.cal (wn T) rfl goFn28 (show_firstError_e918_spec h5) rfl rfl rfl
    repeat exact sd T
    refine wa_ T (g:=?_)
    cases hr
    refine ⟨.inr rfl,_,(ry T),?_⟩
    exact wr [] rfl .nil
  rfl

end Go.Rex

namespace Go.Rex
open Go.Proofs
open Go Go.Rex Go.RowKit
set_option maxRecDepth 100000
set_option maxHeartbeats 1000000
def y11:=an @ag73 <| an @cs73 <| an @ok73 <| an @so98 <| an @wi64_0a1 <| an @wi64_1a1 <| an @wi64_2a1 <| an @wi64_3a1 <| @wi64_4a1
theorem show_firstError_ae42_spec {v1 : Bool} {v2 : Int} {v3 : Bool} {v4 : Int} {v5 : (List Int)} {v6 : Bool} {v7 : Int} {v8 : Bool} {v9 : Int} {v10 : Int} (hr : show_firstError_ae42 v1 v2 v3 v4 v5 v6 v7 v8 v9 = some (v10)) : Spec (lim Tryz.prog) 28 [.list 1 [[.func 56 [] [.fptr true [.v (.bool v1)] 0,.fptr true [.v (.int .i64 v2)] 0]],[.func 56 [] [.fptr true [.v (.bool v3)] 0,.fptr true [.v (.int .i64 v4)] 0]],[.func 53 [] [.fptr true [.list 1 (v5.map e_i)] 0]],[.func 56 [] [.fptr true [.v (.bool v6)] 0,.fptr true [.v (.int .i64 v7)] 0]],[.func 56 [] [.fptr true [.v (.bool v8)] 0,.fptr true [.v (.int .i64 v9)] 0]]]] ⟨[.v (.int .i64 v10)],[]⟩:=by
  unfold show_firstError_ae42 at hr
  have T:=an y11 <| @e_i.eq_1
  apply Spec.fn Tryz.func28 rfl
  focus (simp [Tryz.f28]<;>exact rfl)
  focus
    refine wc_ T (g:=?_)
    refine TX.unroll ?_
    repeat (first|(with_reducible first|refine mv ?_|refine m12 rfl ?_|refine TO.nil ?_)|((with_reducible first|apply TO.bin|apply TO.ia|apply TO.ld|apply TO.asg|apply TO.mv);(repeat (focus (show _ = _;first|exact k1 rfl|exact k2 rfl|(simp only [zz,y11,e_i,Nat.reduceAdd,Nat.reduceMul,Nat.reduceLeDiff,Nat.reduceEqDiff,tindexAddr,z5,Int.reduceToNat,Int.reduceLE,Int.reduceLT,Int.cast_ofNat_Int,tload,rowOf,partT,List.getElem?_map]<;>exact rfl)|exact rfl)));(with_reducible apply TO.here))|((with_reducible apply TX.region);(focus (simp only [zl]<;>exact rfl));(focus rfl);(try dsimp only))|((with_reducible apply TX.cond_true);(focus rfl);(focus (first|rfl|(simp only [z1,zn];done))))|((with_reducible apply TX.cond_false);(focus rfl);(focus (first|rfl|(simp only [z1,zn];done))))|fail)
    obtain ⟨v11,h1,hr⟩:=bs hr
    apply TO.cal (wn T) rfl goFn56 (show_refuse_c1_11f9_spec h1) rfl rfl rfl
    repeat exact sd T
    refine wa_ T (g:=?_)
    rcases ifs hr with ⟨h2,hr⟩|⟨h2,hr⟩
    · have T:=an h2 T
      refine wa_ T (g:=?_)
      cases hr
      refine ⟨.inr rfl,_,(ry T),?_⟩
      exact wk_ T [] rfl .nil
    · have T:=an h2 T
      refine wa_ T (g:=?_)
      refine TX.unroll ?_
      repeat (first|(with_reducible first|refine mv ?_|refine m12 rfl ?_|refine TO.nil ?_)|((with_reducible first|apply TO.bin|apply TO.ia|apply TO.ld|apply TO.asg|apply TO.mv);(repeat (focus (show _ = _;first|exact k1 rfl|exact k2 rfl|(simp only [zz,y11,e_i,Nat.reduceAdd,Nat.reduceMul,Nat.reduceLeDiff,Nat.reduceEqDiff,tindexAddr,z5,Int.reduceToNat,Int.reduceLE,Int.reduceLT,Int.cast_ofNat_Int,tload,rowOf,partT,List.getElem?_map,h2]<;>exact rfl)|exact rfl)));(with_reducible apply TO.here))|((with_reducible apply TX.region);(focus (simp only [zl]<;>exact rfl));(focus rfl);(try dsimp only))|((with_reducible apply TX.cond_true);(focus rfl);(focus (first|rfl|(simp only [z1,zn,h2];done))))|((with_reducible apply TX.cond_false);(focus rfl);(focus (first|rfl|(simp only [z1,zn,h2];done))))|fail)
      obtain ⟨v12,h3,hr⟩:=bs hr
      apply TO.cal (wn T) rfl goFn56 (show_refuse_c1_11f9_spec h3) rfl rfl rfl
      repeat exact sd T
      refine wa_ T (g:=?_)
      rcases ifs hr with ⟨h4,hr⟩|⟨h4,hr⟩
      · have T:=an h4 T
        refine wa_ T (g:=?_)
        cases hr
        refine ⟨.inr rfl,_,(ry T),?_⟩
        exact wk_ T [] rfl .nil
      · have T:=an h4 T
        refine wa_ T (g:=?_)
        refine TX.unroll ?_
        repeat (first|(with_reducible first|refine mv ?_|refine m12 rfl ?_|refine TO.nil ?_)|((with_reducible first|apply TO.bin|apply TO.ia|apply TO.ld|apply TO.asg|apply TO.mv);(repeat (focus (show _ = _;first|exact k1 rfl|exact k2 rfl|(simp only [zz,y11,e_i,Nat.reduceAdd,Nat.reduceMul,Nat.reduceLeDiff,Nat.reduceEqDiff,tindexAddr,z5,Int.reduceToNat,Int.reduceLE,Int.reduceLT,Int.cast_ofNat_Int,tload,rowOf,partT,List.getElem?_map,h2,h4]<;>exact rfl)|exact rfl)));(with_reducible apply TO.here))|((with_reducible apply TX.region);(focus (simp only [zl]<;>exact rfl));(focus rfl);(try dsimp only))|((with_reducible apply TX.cond_true);(focus rfl);(focus (first|rfl|(simp only [z1,zn,h2,h4];done))))|((with_reducible apply TX.cond_false);(focus rfl);(focus (first|rfl|(simp only [z1,zn,h2,h4];done))))|fail)
        obtain ⟨v13,h5,hr⟩:=bs hr
        apply TO.cal (wn T) rfl goFn53 (show_leveled_c1_fd95_spec h5) rfl rfl rfl
        repeat exact sd T
        refine wa_ T (g:=?_)
        rcases ifs hr with ⟨h6,hr⟩|⟨h6,hr⟩
        · have T:=an h6 T
          refine wa_ T (g:=?_)
          cases hr
          refine ⟨.inr rfl,_,(ry T),?_⟩
          exact wk_ T [] rfl .nil
        · have T:=an h6 T
          refine wa_ T (g:=?_)
          refine TX.unroll ?_
          repeat (first|(with_reducible first|refine mv ?_|refine m12 rfl ?_|refine TO.nil ?_)|((with_reducible first|apply TO.bin|apply TO.ia|apply TO.ld|apply TO.asg|apply TO.mv);(repeat (focus (show _ = _;first|exact k1 rfl|exact k2 rfl|(simp only [zz,y11,e_i,Nat.reduceAdd,Nat.reduceMul,Nat.reduceLeDiff,Nat.reduceEqDiff,tindexAddr,z5,Int.reduceToNat,Int.reduceLE,Int.reduceLT,Int.cast_ofNat_Int,tload,rowOf,partT,List.getElem?_map,h2,h4,h6]<;>exact rfl)|exact rfl)));(with_reducible apply TO.here))|((with_reducible apply TX.region);(focus (simp only [zl]<;>exact rfl));(focus rfl);(try dsimp only))|((with_reducible apply TX.cond_true);(focus rfl);(focus (first|rfl|(simp only [z1,zn,h2,h4,h6];done))))|((with_reducible apply TX.cond_false);(focus rfl);(focus (first|rfl|(simp only [z1,zn,h2,h4,h6];done))))|fail)
          obtain ⟨v14,h7,hr⟩:=bs hr
          apply TO.cal (wn T) rfl goFn56 (show_refuse_c1_11f9_spec h7) rfl rfl rfl
          repeat exact sd T
          refine wa_ T (g:=?_)
          rcases ifs hr with ⟨h8,hr⟩|⟨h8,hr⟩
          · have T:=an h8 T
            refine wa_ T (g:=?_)
            cases hr
            refine ⟨.inr rfl,_,(ry T),?_⟩
            exact wk_ T [] rfl .nil
          · have T:=an h8 T
            refine wa_ T (g:=?_)
            refine TX.unroll ?_
            repeat (first|(with_reducible first|refine mv ?_|refine m12 rfl ?_|refine TO.nil ?_)|((with_reducible first|apply TO.bin|apply TO.ia|apply TO.ld|apply TO.asg|apply TO.mv);(repeat (focus (show _ = _;first|exact k1 rfl|exact k2 rfl|(simp only [zz,y11,e_i,Nat.reduceAdd,Nat.reduceMul,Nat.reduceLeDiff,Nat.reduceEqDiff,tindexAddr,z5,Int.reduceToNat,Int.reduceLE,Int.reduceLT,Int.cast_ofNat_Int,tload,rowOf,partT,List.getElem?_map,h2,h4,h6,h8]<;>exact rfl)|exact rfl)));(with_reducible apply TO.here))|((with_reducible apply TX.region);(focus (simp only [zl]<;>exact rfl));(focus rfl);(try dsimp only))|((with_reducible apply TX.cond_true);(focus rfl);(focus (first|rfl|(simp only [z1,zn,h2,h4,h6,h8];done))))|((with_reducible apply TX.cond_false);(focus rfl);(focus (first|rfl|(simp only [z1,zn,h2,h4,h6,h8];done))))|fail)
            obtain ⟨v15,h9,hr⟩:=bs hr
            apply TO.cal (wn T) rfl goFn56 (show_refuse_c1_11f9_spec h9) rfl rfl rfl
            repeat exact sd T
            refine wa_ T (g:=?_)
            rcases ifs hr with ⟨h10,hr⟩|⟨h10,hr⟩
            · have T:=an h10 T
              refine wa_ T (g:=?_)
              cases hr
              refine ⟨.inr rfl,_,(ry T),?_⟩
              exact wk_ T [] rfl .nil
            · have T:=an h10 T
              refine wa_ T (g:=?_)
              refine TX.unroll ?_
              refine wa_ T (g:=?_)
              cases hr
              refine ⟨.inr rfl,_,(ry T),?_⟩
              exact wk_ T [] rfl .nil
  rfl

end Go.Rex

namespace Go.Rex
open Go.Proofs
open Go Go.Rex Go.RowKit
set_option maxRecDepth 100000
set_option maxHeartbeats 1000000
def y12:=an @ag22 <| an @ag3 <| an @ag36 <| an @ag45 <| an @cs45 <| an @cs73 <| an @fd45_0 <| an @fd45_1 <| an @fd45_2 <| an @ok45 <| an @so22 <| an @so36 <| an @so98 <| an @zc45 <| @zc73
theorem show_CheckMoves_c1_ebf2_spec {v1 : Int} {v2 : (List (Int × (List Int) × Int))} {v3 : Int} (hr : show_CheckMoves_c1_ebf2 v1 v2 = some (v3)) : Spec (lim Tryz.prog) 38 [.v (.int .i64 v1),.fptr true [.list 3 (v2.map e_iLi_i)] 0] ⟨[.v (.int .i64 v3)],[]⟩:=by
  unfold show_CheckMoves_c1_ebf2 at hr
  have T:=an y12 <| @e_iLi_i.eq_1
  apply Spec.fn Tryz.func38 rfl
  focus (simp [Tryz.f38]<;>exact rfl)
  focus
    refine wA T (g:=?_)
    obtain ⟨⟨v4,v5,v6⟩,h1,hr⟩:=bs hr
    try dsimp only at hr
    have T:=an (gx e_iLi_i h1) T
    refine wA T (g:=?_)
    obtain ⟨⟨v7,v8⟩,h2,hr⟩:=bs hr
    try dsimp only at hr
    apply TD.cal (wn T) rfl goFn39 (show_ticked_spec h2) rfl rfl rfl
    repeat exact sd T
    refine wa_ T (g:=?_)
    rcases ifs hr with ⟨h3,hr⟩|⟨h3,hr⟩
    · have T:=an h3 T
      refine wA T (g:=?_)
      obtain ⟨⟨v9,v10,v11⟩,h4,hr⟩:=bs hr
      try dsimp only at hr
      have T:=an (gx e_iLi_i h4) T
      refine wA T (g:=?_)
      obtain ⟨⟨v12,v13⟩,h5,hr⟩:=bs hr
      try dsimp only at hr
      apply TD.cal (wn T) rfl goFn30 (show_refuse_spec h5) rfl rfl rfl
      repeat exact sd T
      refine wA T (g:=?_)
      obtain ⟨v14,h6,hr⟩:=bs hr
      apply TD.cal (wn T) rfl goFn29 (show_leveled_spec h6) rfl rfl rfl
      repeat exact sd T
      refine wC T (g:=?_)
      obtain ⟨⟨v15,v16,v17⟩,h7,hr⟩:=bs hr
      try dsimp only at hr
      have T:=an (gx e_iLi_i h7) T
      refine wC T (g:=?_)
      obtain ⟨⟨v18,v19⟩,h8,hr⟩:=bs hr
      try dsimp only at hr
      apply TD.cal (wn T) rfl goFn30 (show_refuse_spec h8) rfl rfl rfl
      repeat exact sd T
      refine wA T (g:=?_)
      obtain ⟨⟨v20,v21⟩,h9,hr⟩:=bs hr
      try dsimp only at hr
      apply TD.cal (wn T) rfl goFn31 (show_stepped_spec h9) rfl rfl rfl
      repeat exact sd T
      refine we_ T (g:=?_)
      obtain ⟨v22,h10,hr⟩:=bs hr
      apply TD.cal (wn T) rfl goFn28 (show_firstError_ae42_spec h10) rfl rfl rfl
      repeat exact sd T
      refine wa_ T (g:=?_)
      cases hr
      refine ⟨.inr rfl,_,(ry T),?_⟩
      exact wk_ T [] rfl .nil
    · have T:=an h3 T
      refine wa_ T (g:=?_)
      obtain ⟨⟨v23,v24⟩,h11,hr⟩:=bs hr
      try dsimp only at hr
      apply TD.cal (wn T) rfl goFn30 (show_refuse_spec h11) rfl rfl rfl
      repeat exact sd T
      refine wA T (g:=?_)
      obtain ⟨v25,h12,hr⟩:=bs hr
      apply TD.cal (wn T) rfl goFn29 (show_leveled_spec h12) rfl rfl rfl
      repeat exact sd T
      refine wC T (g:=?_)
      obtain ⟨⟨v26,v27,v28⟩,h13,hr⟩:=bs hr
      try dsimp only at hr
      have T:=an (gx e_iLi_i h13) T
      refine wC T (g:=?_)
      obtain ⟨⟨v29,v30⟩,h14,hr⟩:=bs hr
      try dsimp only at hr
      apply TD.cal (wn T) rfl goFn30 (show_refuse_spec h14) rfl rfl rfl
      repeat exact sd T
      refine wA T (g:=?_)
      obtain ⟨⟨v31,v32⟩,h15,hr⟩:=bs hr
      try dsimp only at hr
      apply TD.cal (wn T) rfl goFn31 (show_stepped_spec h15) rfl rfl rfl
      repeat exact sd T
      refine we_ T (g:=?_)
      obtain ⟨v33,h16,hr⟩:=bs hr
      apply TD.cal (wn T) rfl goFn28 (show_firstError_ae42_spec h16) rfl rfl rfl
      repeat exact sd T
      refine wa_ T (g:=?_)
      cases hr
      refine ⟨.inr rfl,_,(ry T),?_⟩
      exact wk_ T [] rfl .nil
  rfl

end Go.Rex

namespace Go.Rex
open Go.Proofs
open Go Go.Rex Go.RowKit
set_option maxRecDepth 100000
set_option maxHeartbeats 200000
def y13:=@wi64_0a1
theorem show_firstWrong_1946_spec {v1 : Int} {v2 : (List (Int × (List Int) × Int))} {v3 : Int} {v4 : Int} (hr : show_firstWrong_1946 v1 v2 = some (v3,v4)) : Spec (lim Tryz.prog) 37 [.v (.int .i64 v1),.func 38 [] [.fptr true [.list 3 (v2.map e_iLi_i)] 0]] ⟨[.tuple [.v (.int .i64 v3),.v (.int .i64 v4)]],[]⟩:=by
  unfold show_firstWrong_1946 at hr
  have T:=an y13 <| @e_iLi_i.eq_1
  apply Spec.fn Tryz.func37 rfl
  focus (simp [Tryz.f37]<;>exact rfl)
  focus
    refine wa_ T (g:=?_)
    obtain ⟨v10,h7,hr⟩:=bs hr
    refine TX.loopE (step:=show_firstWrong_1946_l1 v1 v2) (x:=0) h7 (fun v5=>⟨.junk :: .func 38 [] [.fptr true [.list 3 (v2.map e_iLi_i)] 0] :: .junk :: .junk :: .junk :: .junk :: .junk :: .junk :: .v (.int .i64 v1) :: .v (.int .i64 v5) :: .junk :: .junk :: .junk :: .junk :: .junk :: .junk :: .junk :: .junk :: .junk :: .junk :: [],[]⟩) (fun e=>match e with|(.inl (v7,v8))=>(.ret,⟨.junk :: .junk :: .junk :: .junk :: .v (.int .i64 v7) :: .v (.int .i64 v8) :: .junk :: .junk :: .junk :: .junk :: .junk :: .junk :: .junk :: .junk :: .junk :: .junk :: .junk :: .junk :: .junk :: .junk :: [],[]⟩)|(.inr _)=>(.exit 0,⟨.junk :: .junk :: .junk :: .junk :: .junk :: .junk :: .junk :: .junk :: .junk :: .junk :: .junk :: .junk :: .junk :: .junk :: .junk :: .junk :: .junk :: .junk :: .junk :: .junk :: [],[]⟩)) ?_ ?_ ?_ ?_
    · rintro v5 v0 hr
      dsimp only [show_firstWrong_1946_l1] at hr
      try dsimp only
      refine wa_ T (g:=?_)
      rcases ifs hr with ⟨h4,hr⟩|⟨h4,hr⟩
      · have T:=an h4 T
        refine wa_ T (g:=?_)
        obtain ⟨v9,h5,hr⟩:=bs hr
        apply TO.cal (wn T) rfl goFn38 (show_CheckMoves_c1_ebf2_spec h5) rfl rfl rfl
        repeat exact sd T
        refine wa_ T (g:=?_)
        rcases ifs hr with ⟨h6,hr⟩|⟨h6,hr⟩
        · have T:=an h6 T
          refine wa_ T (g:=?_)
          cases hr
          refine ⟨rfl,?_⟩
          exact wk_ T [] rfl .nil
        · have T:=an h6 T
          refine wa_ T (g:=?_)
          cases hr
          refine ⟨rfl,?_⟩
          exact wk_ T [] rfl .nil
      · have T:=an h4 T
        refine wa_ T (g:=?_)
        cases hr
        refine ⟨rfl,?_⟩
        exact wk_ T [] rfl .nil
    · intro e h;rcases e with _|e<;>cases h
    · try dsimp only
      rcases v10 with ⟨v11,v12⟩|_
      · try dsimp only at hr
        try dsimp only
        refine wa_ T (g:=?_)
        cases hr
        refine ⟨.inr rfl,_,(ry T),?_⟩
        exact wr [] rfl .nil
      · try dsimp only at hr
        try dsimp only
        refine wa_ T (g:=?_)
        cases hr
        refine ⟨.inr rfl,_,(ry T),?_⟩
        exact wr [] rfl .nil
    · try dsimp only
      exact wr [] rfl .nil
  rfl

end Go.Rex

namespace Go.Rex
open Go.Proofs
open Go Go.Rex Go.RowKit
set_option maxRecDepth 100000
set_option maxHeartbeats 200000
def y14:=an @ag36 <| @so36
theorem show_CheckMoves_spec {v1 : (List (Int × (List Int) × Int))} {v2 : Int} {v3 : Int} (hr : show_CheckMoves v1 = some (v2,v3)) : Spec (lim Tryz.prog) 15 [.list 3 (v1.map e_iLi_i)] ⟨[.tuple [.v (.int .i64 v2),.v (.int .i64 v3)]],[]⟩:=by
  unfold show_CheckMoves at hr
  have T:=an y14 <| @e_iLi_i.eq_1
  apply Spec.fn Tryz.func15 rfl
  focus (simp [Tryz.f15]<;>exact rfl)
  focus
    refine wD T (g:=?_)
    rcases ifs hr with ⟨h1,hr⟩|⟨h1,hr⟩
    · have T:=an h1 T
      refine wa_ T (g:=?_)
      cases hr
      refine ⟨.inr rfl,_,(ry T),?_⟩
      exact wk_ T [] rfl .nil
    · have T:=an h1 T
      refine wC T (g:=?_)
      obtain ⟨⟨v4,v5⟩,h2,hr⟩:=bs hr
      try dsimp only at hr
      apply TO.cal (wn T) rfl goFn37 (show_firstWrong_1946_spec h2) rfl rfl rfl
      repeat exact sd T
      refine wa_ T (g:=?_)
      cases hr
      refine ⟨.inr rfl,_,(ry T),?_⟩
      exact wk_ T [] rfl .nil
  rfl

end Go.Rex

namespace Go.Rex
open Go.Proofs
open Go Go.Rex Go.RowKit
set_option maxRecDepth 100000
set_option maxHeartbeats 200000
def y15:=an @ag73 <| an @cs73 <| an @ok73 <| an @so98 <| an @wi64_0a1 <| @wi64_1a1
theorem show_firstError_a806_spec {v1 : Int} {v2 : Bool} {v3 : Int} {v4 : Int} (hr : show_firstError_a806 v1 v2 v3 = some (v4)) : Spec (lim Tryz.prog) 28 [.list 1 [[.func 59 [] [.fptr true [.v (.int .i64 v1)] 0]],[.func 56 [] [.fptr true [.v (.bool v2)] 0,.fptr true [.v (.int .i64 v3)] 0]]]] ⟨[.v (.int .i64 v4)],[]⟩:=by
  unfold show_firstError_a806 at hr
  have T:=y15
  apply Spec.fn Tryz.func28 rfl
  focus (simp [Tryz.f28]<;>exact rfl)
  focus
    refine wc_ T (g:=?_)
    refine TX.unroll ?_
    repeat (first|(with_reducible first|refine mv ?_|refine m12 rfl ?_|refine TO.nil ?_)|((with_reducible first|apply TO.bin|apply TO.ia|apply TO.ld|apply TO.asg|apply TO.mv);(repeat (focus (show _ = _;first|exact k1 rfl|exact k2 rfl|(simp only [zz,y15,Nat.reduceAdd,Nat.reduceMul,Nat.reduceLeDiff,Nat.reduceEqDiff,tindexAddr,z5,Int.reduceToNat,Int.reduceLE,Int.reduceLT,Int.cast_ofNat_Int,tload,rowOf,partT,List.getElem?_map]<;>exact rfl)|exact rfl)));(with_reducible apply TO.here))|((with_reducible apply TX.region);(focus (simp only [zl]<;>exact rfl));(focus rfl);(try dsimp only))|((with_reducible apply TX.cond_true);(focus rfl);(focus (first|rfl|(simp only [z1,zn];done))))|((with_reducible apply TX.cond_false);(focus rfl);(focus (first|rfl|(simp only [z1,zn];done))))|fail)
    obtain ⟨v5,h1,hr⟩:=bs hr
    apply TO.cal (wn T) rfl goFn59 (show_unnumbered_c1_662c_spec h1) rfl rfl rfl
    repeat exact sd T
    refine wa_ T (g:=?_)
    rcases ifs hr with ⟨h2,hr⟩|⟨h2,hr⟩
    · have T:=an h2 T
      refine wa_ T (g:=?_)
      cases hr
      refine ⟨.inr rfl,_,(ry T),?_⟩
      exact wk_ T [] rfl .nil
    · have T:=an h2 T
      refine wa_ T (g:=?_)
      refine TX.unroll ?_
      repeat (first|(with_reducible first|refine mv ?_|refine m12 rfl ?_|refine TO.nil ?_)|((with_reducible first|apply TO.bin|apply TO.ia|apply TO.ld|apply TO.asg|apply TO.mv);(repeat (focus (show _ = _;first|exact k1 rfl|exact k2 rfl|(simp only [zz,y15,Nat.reduceAdd,Nat.reduceMul,Nat.reduceLeDiff,Nat.reduceEqDiff,tindexAddr,z5,Int.reduceToNat,Int.reduceLE,Int.reduceLT,Int.cast_ofNat_Int,tload,rowOf,partT,List.getElem?_map,h2]<;>exact rfl)|exact rfl)));(with_reducible apply TO.here))|((with_reducible apply TX.region);(focus (simp only [zl]<;>exact rfl));(focus rfl);(try dsimp only))|((with_reducible apply TX.cond_true);(focus rfl);(focus (first|rfl|(simp only [z1,zn,h2];done))))|((with_reducible apply TX.cond_false);(focus rfl);(focus (first|rfl|(simp only [z1,zn,h2];done))))|fail)
      obtain ⟨v6,h3,hr⟩:=bs hr
      apply TO.cal (wn T) rfl goFn56 (show_refuse_c1_11f9_spec h3) rfl rfl rfl
      repeat exact sd T
      refine wa_ T (g:=?_)
      rcases ifs hr with ⟨h4,hr⟩|⟨h4,hr⟩
      · have T:=an h4 T
        refine wa_ T (g:=?_)
        cases hr
        refine ⟨.inr rfl,_,(ry T),?_⟩
        exact wk_ T [] rfl .nil
      · have T:=an h4 T
        refine wa_ T (g:=?_)
        refine TX.unroll ?_
        refine wa_ T (g:=?_)
        cases hr
        refine ⟨.inr rfl,_,(ry T),?_⟩
        exact wk_ T [] rfl .nil
  rfl

end Go.Rex

namespace Go.Rex
open Go.Proofs
open Go Go.Rex Go.RowKit
set_option maxRecDepth 100000
set_option maxHeartbeats 200000
def y16:=an @by3 <| an @cs3 <| an @ni22 <| an @so22 <| @zc3
theorem slices_Clone_int_int_spec {v1 : (List Int)} {v2 : (List Int)} (hr : slices_Clone_int_int v1 = some (v2)) : Spec (lim Tryz.prog) 57 [.list 1 (v1.map e_i)] ⟨[.lsl 0 0 v2.length],[.rows 1 (v2.map e_i)]⟩:=by
  unfold slices_Clone_int_int at hr
  have T:=an y16 <| @e_i.eq_1
  apply Spec.fn Tryz.func57 rfl
  focus (simp [Tryz.f57]<;>exact rfl)
  focus
    refine wa_ T (g:=?_)
    refine TO.nq (wn T) (.inl rfl) rfl rfl so22 ?_ ?_
    · intro h1
      replace hr:=nilq_l hr h1
      show TO _ _ _ _ ⟨[.list 1 (v1.map e_i),.junk,.v (.slice none 0 0),.list 1 (v1.map e_i),.v (.bool true),.junk,.junk,.junk],[]⟩ _
      refine wa_ T (g:=?_)
      cases hr
      refine ⟨.inr rfl,_,(ry T),?_⟩
      exact wr [none] rfl (.virt .nil)
    · replace hr:=nilq_r hr
      show TO _ _ _ _ ⟨[.list 1 (v1.map e_i),.junk,.v (.slice none 0 0),.list 1 (v1.map e_i),.v (.bool false),.junk,.junk,.junk],[]⟩ _
      refine wa_ T (g:=?_)
      apply TO.bl e_i ([] : List Int) (wn T) rfl (by simp only [zz,y16,e_i,Nat.reduceAdd,Nat.reduceMul,Nat.reduceLeDiff,Nat.reduceEqDiff,tslice,tparts];exact rfl) rfl rfl
      repeat exact sd T
      refine wa_ T (g:=?_)
      obtain ⟨v3,h2,hr⟩:=bs hr
      apply TO.ap (f:=e_i) (xs:=([] : List Int)) (ys:=v1) (wn T) rfl rfl (by first|rfl|simp only [List.length_set]) rfl rfl so22 ni22 zc3 rfl (by rw [by3];exact h2) (fun _=>⟨rfl,rfl,rfl⟩)
      repeat exact sd T
      refine wa_ T (g:=?_)
      cases hr
      refine ⟨.inr rfl,_,(ry T),?_⟩
      exact wr [some 0] rfl (.rows .nil rfl rfl)
  rfl

end Go.Rex

namespace Go.Rex
open Go.Proofs
open Go Go.Rex Go.RowKit
set_option maxRecDepth 100000
set_option maxHeartbeats 200000
theorem show_floor_spec {v1 : Int} {v2 : Int} {v3 : Int} (hr : show_floor v1 v2 = some (v3)) : Spec (lim Tryz.prog) 77 [.v (.int .i64 v1),.v (.int .i64 v2)] ⟨[.v (.int .i64 v3)],[]⟩:=by
  unfold show_floor at hr
  have T:=trivial
  apply Spec.fn Tryz.func77 rfl
  focus (simp [Tryz.f77]<;>exact rfl)
  focus
    refine wa_ T (g:=?_)
    by_cases h1 : v2 = 0
    · rw [if_pos h1] at hr
      cases hr
    · rw [if_neg h1] at hr
      have T:=an h1 T
      refine wa_ T (g:=?_)
      cases hr
      refine ⟨.inr rfl,_,(ry T),?_⟩
      exact wr [] rfl .nil
  rfl

end Go.Rex

namespace Go.Rex
open Go.Proofs
open Go Go.Rex Go.RowKit
set_option maxRecDepth 100000
set_option maxHeartbeats 200000
theorem show_nearest_spec {v1 : Int} {v2 : Int} {v3 : Int} (hr : show_nearest v1 v2 = some (v3)) : Spec (lim Tryz.prog) 58 [.v (.int .i64 v1),.v (.int .i64 v2)] ⟨[.v (.int .i64 v3)],[]⟩:=by
  unfold show_nearest at hr
  have T:=trivial
  apply Spec.fn Tryz.func58 rfl
  focus (simp [Tryz.f58]<;>exact rfl)
  focus
    refine wa_ T (g:=?_)
    obtain ⟨v4,h1,hr⟩:=bs hr
    apply TO.cal (wn T) rfl goFn77 (show_floor_spec h1) rfl rfl rfl
    repeat exact sd T
    refine wa_ T (g:=?_)
    cases hr
    refine ⟨.inr rfl,_,(ry T),?_⟩
    exact wr [] rfl .nil
  rfl

end Go.Rex

namespace Go.Rex
open Go.Proofs
open Go Go.Rex Go.RowKit
set_option maxRecDepth 100000
set_option maxHeartbeats 200000
def y17:=an @ag22 <| an @ag3 <| an @cs3 <| an @fd24_0 <| an @fd24_1 <| an @fd24_2 <| an @fd24_3 <| an @ok3 <| an @so22 <| @wi64_0a1
theorem show_levelsOf_spec {v1 : (List Int)} {v2 : (List Int)} {v3 : Int} {v4 : Int} {v5 : (List Int)} (hr : show_levelsOf v1 v2 v3 v4 = some (v5)) : Spec (lim Tryz.prog) 33 [.agg [.list 1 (v1.map e_i),.list 1 (v2.map e_i),.v (.int .i64 v3),.v (.int .i64 v4)]] ⟨[.lsl 0 0 v5.length],[.rows 1 (v5.map e_i)]⟩:=by
  unfold show_levelsOf at hr
  have T:=an y17 <| @e_i.eq_1
  apply Spec.fn Tryz.func33 rfl
  focus (simp [Tryz.f33]<;>exact rfl)
  focus
    refine wB T (g:=?_)
    obtain ⟨v6,h1,hr⟩:=bs hr
    apply TO.cal (wn T) rfl goFn57 (slices_Clone_int_int_spec h1) rfl rfl rfl
    repeat exact sd T
    refine wA T (g:=?_)
    rcases ifs hr with ⟨h2,hr⟩|⟨h2,hr⟩
    · have T:=an h2 T
      refine wa_ T (g:=?_)
      cases hr
      refine ⟨.inr rfl,_,(ry T),?_⟩
      exact wk_ T [some 0] rfl (.rows .nil rfl rfl)
    · have T:=an h2 T
      refine wC T (g:=?_)
      obtain ⟨v18,h13,hr⟩:=bs hr
      refine TX.loopE (step:=show_levelsOf_l1 v1 v2 v3 v4) (x:=(v6,0)) h13 (fun (v7,v8)=>⟨.junk :: .fptr true [.list 1 (v1.map e_i),.list 1 (v2.map e_i),.v (.int .i64 v3),.v (.int .i64 v4)] 0 :: .junk :: .lsl 0 0 v7.length :: .junk :: .junk :: .junk :: .junk :: .junk :: .junk :: .junk :: .junk :: .junk :: .junk :: .junk :: .junk :: .list 1 (v1.map e_i) :: .v (.int .i64 (v1.length : Int)) :: .v (.int .i64 v8) :: .junk :: .junk :: .junk :: .junk :: .junk :: .junk :: .junk :: .junk :: .junk :: .junk :: .junk :: .junk :: .junk :: .junk :: .junk :: .junk :: .junk :: .junk :: .junk :: .junk :: .junk :: .junk :: .junk :: .junk :: [],[.rows 1 (v7.map e_i)]⟩) (fun v13=>(.exit 0,⟨.junk :: .junk :: .junk :: .lsl 0 0 v13.length :: .junk :: .junk :: .junk :: .junk :: .junk :: .junk :: .junk :: .junk :: .junk :: .junk :: .junk :: .junk :: .junk :: .junk :: .junk :: .junk :: .junk :: .junk :: .junk :: .junk :: .junk :: .junk :: .junk :: .junk :: .junk :: .junk :: .junk :: .junk :: .junk :: .junk :: .junk :: .junk :: .junk :: .junk :: .junk :: .junk :: .junk :: .junk :: .junk :: [],[.rows 1 (v13.map e_i)]⟩)) ?_ ?_ ?_ ?_
      · rintro ⟨v7,v8⟩ v0 hr
        dsimp only [show_levelsOf_l1] at hr
        try dsimp only
        refine wa_ T (g:=?_)
        rcases ifs hr with ⟨h8,hr⟩|⟨h8,hr⟩
        · have T:=an h8 T
          refine wa_ T (g:=?_)
          obtain ⟨v14,h9,hr⟩:=bs hr
          have T:=an (gx e_i h9) T
          refine wA T (g:=?_)
          obtain ⟨v15,h10,hr⟩:=bs hr
          have T:=an (gx e_i h10) T
          refine wA T (g:=?_)
          obtain ⟨v16,h11,hr⟩:=bs hr
          apply TD.cal (wn T) rfl goFn58 (show_nearest_spec h11) rfl rfl rfl
          repeat exact sd T
          refine wa_ T (g:=?_)
          obtain ⟨v17,h12,hr⟩:=bs hr
          have h12m:=tidx_map (f:=e_i) h12
          have h12l:=getI_lt h12
          try simp only [List.length_set] at h12l
          have h12a:=getI_at h12
          have T:=an h12m T
          have T:=an h12l T
          have T:=an h12a T
          refine wa_ T (g:=?_)
          apply TD.sr e_i v7 v17 (IntKind.i64.wrap (v14 + v16)) h12a (wn T) rfl rfl rfl rfl rfl ok3 (by rw [cs3];rfl) rfl rfl rfl rfl rfl
          repeat exact sd T
          refine wa_ T (g:=?_)
          cases hr
          refine ⟨rfl,?_⟩
          exact wk_ T [some 0] rfl (.rows .nil rfl rfl)
        · have T:=an h8 T
          refine wa_ T (g:=?_)
          cases hr
          refine ⟨rfl,?_⟩
          exact wk_ T [some 0] rfl (.rows .nil rfl rfl)
      · intro e h;cases h
      · try dsimp only
        refine wa_ T (g:=?_)
        cases hr
        refine ⟨.inr rfl,_,(ry T),?_⟩
        exact wk_ T [some 0] rfl (.rows .nil rfl rfl)
      · try dsimp only
        exact wk_ T [some 0] rfl (.rows .nil rfl rfl)
  rfl

end Go.Rex

namespace Go.Rex
open Go.Proofs
open Go Go.Rex Go.RowKit
set_option maxRecDepth 100000
set_option maxHeartbeats 1000000
def y18:=an @ag22 <| an @ag3 <| an @ag45 <| an @by3 <| an @cs45 <| an @fd45_0 <| an @fd45_1 <| an @fd45_2 <| an @ok45 <| an @so22 <| an @so36 <| an @st24 <| an @zc24 <| an @zc3 <| an @zc45 <| @wi64_0a1
theorem show_levelsAt_spec {v1 : (List (Int × (List Int) × Int))} {v2 : Int} {v3 : (List Int)} (hr : show_levelsAt v1 v2 = some (v3)) : Spec (lim Tryz.prog) 41 [.list 3 (v1.map e_iLi_i),.v (.int .i64 v2)] ⟨[.lsl 0 0 v3.length],[.rows 1 (v3.map e_i)]⟩:=by
  unfold show_levelsAt at hr
  have T:=an y18 <| an @e_i.eq_1 <| @e_iLi_i.eq_1
  apply Spec.fn Tryz.func41 rfl
  focus (simp [Tryz.f41]<;>exact rfl)
  focus
    refine wc_ T (g:=?_)
    rcases ifs hr with ⟨h1,hr⟩|⟨h1,hr⟩
    · have T:=an h1 T
      refine wa_ T (g:=?_)
      cases hr
      refine ⟨.inr rfl,_,(ry T),?_⟩
      exact wk_ T [none] rfl (.virt .nil)
    · have T:=an h1 T
      refine wa_ T (g:=?_)
      obtain ⟨⟨v4,v5,v6⟩,h2,hr⟩:=bs hr
      try dsimp only at hr
      have T:=an (gx e_iLi_i h2) T
      refine wC T (g:=?_)
      obtain ⟨v7,h3,hr⟩:=bs hr
      apply TO.mk e_i h3 (wn T) rfl rfl so22 zc3 by3 rfl rfl rfl
      repeat exact sd T
      refine wc_ T (g:=?_)
      obtain ⟨v27,h18,hr⟩:=bs hr
      refine TX.loopE (step:=show_levelsAt_l1 v1 v2) (x:=(v7,0)) h18 (fun (v8,v9)=>⟨.list 3 (v1.map e_iLi_i) :: .v (.int .i64 v2) :: .junk :: .junk :: .junk :: .lsl 0 0 v8.length :: .junk :: .junk :: .junk :: .junk :: .junk :: .junk :: .junk :: .junk :: .junk :: .junk :: .junk :: .junk :: .list 3 (v1.map e_iLi_i) :: .v (.int .i64 (v1.length : Int)) :: .v (.int .i64 v9) :: .junk :: .junk :: .junk :: .junk :: .junk :: .junk :: .junk :: .junk :: .junk :: .junk :: .junk :: .junk :: .junk :: .junk :: .junk :: .junk :: .junk :: .junk :: .junk :: .junk :: .junk :: .junk :: .junk :: .junk :: .junk :: .junk :: .junk :: .junk :: .junk :: .junk :: .junk :: .junk :: .junk :: .junk :: .junk :: .junk :: .junk :: .junk :: [],[.rows 1 (v8.map e_i)]⟩) (fun v18=>(.exit 0,⟨.junk :: .junk :: .junk :: .junk :: .junk :: .lsl 0 0 v18.length :: .junk :: .junk :: .junk :: .junk :: .junk :: .junk :: .junk :: .junk :: .junk :: .junk :: .junk :: .junk :: .junk :: .junk :: .junk :: .junk :: .junk :: .junk :: .junk :: .junk :: .junk :: .junk :: .junk :: .junk :: .junk :: .junk :: .junk :: .junk :: .junk :: .junk :: .junk :: .junk :: .junk :: .junk :: .junk :: .junk :: .junk :: .junk :: .junk :: .junk :: .junk :: .junk :: .junk :: .junk :: .junk :: .junk :: .junk :: .junk :: .junk :: .junk :: .junk :: .junk :: .junk :: [],[.rows 1 (v18.map e_i)]⟩)) ?_ ?_ ?_ ?_
      · rintro ⟨v8,v9⟩ v0 hr
        dsimp only [show_levelsAt_l1] at hr
        try dsimp only
        refine wa_ T (g:=?_)
        rcases ifs hr with ⟨h11,hr⟩|⟨h11,hr⟩
        · have T:=an h11 T
          refine wa_ T (g:=?_)
          obtain ⟨⟨v19,v20,v21⟩,h12,hr⟩:=bs hr
          try dsimp only at hr
          have T:=an (gx e_iLi_i h12) T
          refine wA T (g:=?_)
          rcases ifs hr with ⟨h13,hr⟩|⟨h13,hr⟩
          · have T:=an h13 T
            refine wa_ T (g:=?_)
            cases hr
            refine ⟨rfl,?_⟩
            exact wk_ T [some 0] rfl (.rows .nil rfl rfl)
          · have T:=an h13 T
            refine wc_ T (g:=?_)
            rcases ifs hr with ⟨h14,hr⟩|⟨h14,hr⟩
            · have T:=an h14 T
              refine wa_ T (g:=?_)
              obtain ⟨⟨v22,v23,v24⟩,h15,hr⟩:=bs hr
              try dsimp only at hr
              have T:=an (gx e_iLi_i h15) T
              refine wA T (g:=?_)
              apply TO.pop1 (wn T) (pop_min rfl rfl)
              repeat exact sd T
              refine wA T (g:=?_)
              apply TO.pop1 (wn T) (pop_min rfl rfl)
              repeat exact sd T
              refine wa_ T (g:=?_)
              obtain ⟨v25,h16,hr⟩:=bs hr
              apply TO.lok (wn T) rfl goFn33 (show_levelsOf_spec h16) (vw T) rfl rfl (by simp [clTB,cl,e_i,e_iLi_i])
              repeat exact sd T
              refine wa_ T (g:=?_)
              cases hr
              refine ⟨rfl,?_⟩
              exact wk_ T [some 2] rfl (.rows .nil rfl rfl)
            · have T:=an h14 T
              refine wA T (g:=?_)
              apply TO.pop1 (wn T) (pop_min rfl rfl)
              repeat exact sd T
              refine wa_ T (g:=?_)
              obtain ⟨v26,h17,hr⟩:=bs hr
              apply TO.lok (wn T) rfl goFn33 (show_levelsOf_spec h17) (vw T) rfl rfl (by simp [clTB,cl,e_i,e_iLi_i])
              repeat exact sd T
              refine wa_ T (g:=?_)
              cases hr
              refine ⟨rfl,?_⟩
              exact wk_ T [some 2] rfl (.rows .nil rfl rfl)
        · have T:=an h11 T
          refine wa_ T (g:=?_)
          cases hr
          refine ⟨rfl,?_⟩
          exact wk_ T [some 0] rfl (.rows .nil rfl rfl)
      · intro e h;cases h
      · try dsimp only
        refine wa_ T (g:=?_)
        cases hr
        refine ⟨.inr rfl,_,(ry T),?_⟩
        exact wk_ T [some 0] rfl (.rows .nil rfl rfl)
      · try dsimp only
        exact wk_ T [some 0] rfl (.rows .nil rfl rfl)
  rfl

end Go.Rex

namespace Go.Rex
open Go.Proofs
open Go Go.Rex Go.RowKit
set_option maxRecDepth 100000
set_option maxHeartbeats 200000
def y19:=an @cs73 <| an @so98 <| @zc73
theorem show_LevelsAt_spec {v1 : (List (Int × (List Int) × Int))} {v2 : Int} {v3 : (List Int)} {v4 : Int} (hr : show_LevelsAt v1 v2 = some (v3,v4)) : Spec (lim Tryz.prog) 17 [.list 3 (v1.map e_iLi_i),.v (.int .i64 v2)] ⟨[.tuple [.lsl 0 0 v3.length,.v (.int .i64 v4)]],[.rows 1 (v3.map e_i)]⟩:=by
  unfold show_LevelsAt at hr
  have T:=an y19 <| an @e_i.eq_1 <| @e_iLi_i.eq_1
  apply Spec.fn Tryz.func17 rfl
  focus (simp [Tryz.f17]<;>exact rfl)
  focus
    refine wa_ T (g:=?_)
    obtain ⟨⟨v5,v6⟩,h1,hr⟩:=bs hr
    try dsimp only at hr
    apply TO.cal (wn T) rfl goFn15 (show_CheckMoves_spec h1) rfl rfl rfl
    repeat exact sd T
    refine wa_ T (g:=?_)
    obtain ⟨v7,h2,hr⟩:=bs hr
    apply TO.cal (wn T) rfl goFn40 (show_unnumbered_spec h2) rfl rfl rfl
    repeat exact sd T
    refine wa_ T (g:=?_)
    obtain ⟨⟨v8,v9⟩,h3,hr⟩:=bs hr
    try dsimp only at hr
    apply TO.cal (wn T) rfl goFn32 (show_within_spec h3) rfl rfl rfl
    repeat exact sd T
    refine we_ T (g:=?_)
    obtain ⟨v10,h4,hr⟩:=bs hr
    apply TO.cal (wn T) rfl goFn28 (show_firstError_a806_spec h4) rfl rfl rfl
    repeat exact sd T
    refine wa_ T (g:=?_)
    rcases ifs hr with ⟨h5,hr⟩|⟨h5,hr⟩
    · have T:=an h5 T
      refine wa_ T (g:=?_)
      cases hr
      refine ⟨.inr rfl,_,(ry T),?_⟩
      exact wk_ T [none] rfl (.virt .nil)
    · have T:=an h5 T
      refine wa_ T (g:=?_)
      obtain ⟨v11,h6,hr⟩:=bs hr
      apply TO.cal (wn T) rfl goFn41 (show_levelsAt_spec h6) rfl rfl rfl
      repeat exact sd T
      refine wa_ T (g:=?_)
      cases hr
      refine ⟨.inr rfl,_,(ry T),?_⟩
      exact wk_ T [some 0] rfl (.rows .nil rfl rfl)
  rfl

end Go.Rex

namespace Go.Rex
open Go.Proofs
open Go Go.Rex Go.RowKit
set_option maxRecDepth 100000
set_option maxHeartbeats 200000
def y20:=an @ag3 <| an @ag45 <| an @cs45 <| an @cs73 <| an @fd45_0 <| an @fd45_2 <| an @ok45 <| an @so36 <| an @so98 <| an @zc45 <| @zc73
theorem show_StillFrom_spec {v1 : (List (Int × (List Int) × Int))} {v2 : Int} {v3 : Int} (hr : show_StillFrom v1 = some (v2,v3)) : Spec (lim Tryz.prog) 18 [.list 3 (v1.map e_iLi_i)] ⟨[.tuple [.v (.int .i64 v2),.v (.int .i64 v3)]],[]⟩:=by
  unfold show_StillFrom at hr
  have T:=an y20 <| @e_iLi_i.eq_1
  apply Spec.fn Tryz.func18 rfl
  focus (simp [Tryz.f18]<;>exact rfl)
  focus
    refine wa_ T (g:=?_)
    obtain ⟨⟨v4,v5⟩,h1,hr⟩:=bs hr
    try dsimp only at hr
    apply TO.cal (wn T) rfl goFn15 (show_CheckMoves_spec h1) rfl rfl rfl
    repeat exact sd T
    refine wa_ T (g:=?_)
    obtain ⟨v6,h2,hr⟩:=bs hr
    apply TO.cal (wn T) rfl goFn40 (show_unnumbered_spec h2) rfl rfl rfl
    repeat exact sd T
    refine wc_ T (g:=?_)
    obtain ⟨⟨v7,v8⟩,h3,hr⟩:=bs hr
    try dsimp only at hr
    apply TO.cal (wn T) rfl goFn30 (show_refuse_spec h3) rfl rfl rfl
    repeat exact sd T
    refine we_ T (g:=?_)
    obtain ⟨v9,h4,hr⟩:=bs hr
    apply TO.cal (wn T) rfl goFn28 (show_firstError_a806_spec h4) rfl rfl rfl
    repeat exact sd T
    refine wa_ T (g:=?_)
    rcases ifs hr with ⟨h5,hr⟩|⟨h5,hr⟩
    · have T:=an h5 T
      refine wa_ T (g:=?_)
      cases hr
      refine ⟨.inr rfl,_,(ry T),?_⟩
      exact wk_ T [] rfl .nil
    · have T:=an h5 T
      refine wc_ T (g:=?_)
      obtain ⟨⟨v10,v11,v12⟩,h6,hr⟩:=bs hr
      try dsimp only at hr
      have T:=an (gx e_iLi_i h6) T
      refine wA T (g:=?_)
      cases hr
      refine ⟨.inr rfl,_,(ry T),?_⟩
      exact wk_ T [] rfl .nil
  rfl

end Go.Rex

namespace Go.Rex
open Go.Proofs
open Go Go.Rex Go.RowKit
set_option maxRecDepth 100000
set_option maxHeartbeats 200000
theorem base_Within_spec {v1 : Int} {v2 : Int} {v3 : Int} {v4 : Bool} (hr : base_Within v1 v2 v3 = some (v4)) : Spec (lim Tryz.prog) 13 [.v (.int .i64 v1),.v (.int .i64 v2),.v (.int .i64 v3)] ⟨[.v (.bool v4)],[]⟩:=by
  unfold base_Within at hr
  have T:=trivial
  apply Spec.fn Tryz.func13 rfl
  focus (simp [Tryz.f13]<;>exact rfl)
  focus
    refine wa_ T (g:=?_)
    rcases ifs hr with ⟨h1,hr⟩|⟨h1,hr⟩
    · have T:=an h1 T
      refine wa_ T (g:=?_)
      cases hr
      refine ⟨.inr rfl,_,(ry T),?_⟩
      exact wk_ T [] rfl .nil
    · have T:=an h1 T
      refine wa_ T (g:=?_)
      cases hr
      refine ⟨.inr rfl,_,(ry T),?_⟩
      exact wk_ T [] rfl .nil
  rfl

end Go.Rex

namespace Go.Rex
open Go.Proofs
open Go Go.Rex Go.RowKit
set_option maxRecDepth 100000
set_option maxHeartbeats 200000
def y21:=an @ag3 <| an @cs3 <| an @ok3 <| an @so22 <| @wi64_0a1
theorem ref10_LevelsErr_spec {v1 : (List Int)} {v2 : Int} (hr : ref10_LevelsErr v1 = some (v2)) : Spec (lim Tryz.prog) 34 [.list 1 (v1.map e_i)] ⟨[.v (.int .i64 v2)],[]⟩:=by
  unfold ref10_LevelsErr at hr
  have T:=an y21 <| @e_i.eq_1
  apply Spec.fn Tryz.func34 rfl
  focus (simp [Tryz.f34]<;>exact rfl)
  focus
    refine wc_ T (g:=?_)
    obtain ⟨v3,h1,hr⟩:=bs hr
    apply TO.cal (wn T) rfl goFn13 (base_Within_spec h1) rfl rfl rfl
    repeat exact sd T
    refine wa_ T (g:=?_)
    apply TO.pop1 (wn T) (pop_not rfl)
    repeat exact sd T
    refine wa_ T (g:=?_)
    rcases ifs hr with ⟨h2,hr⟩|⟨h2,hr⟩
    · have T:=an h2 T
      refine wa_ T (g:=?_)
      obtain ⟨v9,h11,hr⟩:=bs hr
      refine TX.loopE (step:=ref10_LevelsErr_l1 v1) (x:=0) h11 (fun v4=>⟨.list 1 (v1.map e_i) :: .junk :: .junk :: .v (.int .i64 v4) :: .junk :: .junk :: .junk :: .junk :: .junk :: .junk :: .junk :: .junk :: .junk :: .junk :: .junk :: .junk :: .junk :: .junk :: .junk :: .junk :: [],[]⟩) (fun e=>match e with|(.inl _)=>(.ret,⟨.junk :: .junk :: .v (.int .i64 2) :: .junk :: .junk :: .junk :: .junk :: .junk :: .junk :: .junk :: .junk :: .junk :: .junk :: .junk :: .junk :: .junk :: .junk :: .junk :: .junk :: .junk :: [],[]⟩)|(.inr _)=>(.exit 0,⟨.junk :: .junk :: .junk :: .junk :: .junk :: .junk :: .junk :: .junk :: .junk :: .junk :: .junk :: .junk :: .junk :: .junk :: .junk :: .junk :: .junk :: .junk :: .junk :: .junk :: [],[]⟩)) ?_ ?_ ?_ ?_
      · rintro v4 v0 hr
        dsimp only [ref10_LevelsErr_l1] at hr
        try dsimp only
        refine wc_ T (g:=?_)
        rcases ifs hr with ⟨h7,hr⟩|⟨h7,hr⟩
        · have T:=an h7 T
          refine wa_ T (g:=?_)
          obtain ⟨v7,h8,hr⟩:=bs hr
          have T:=an (gx e_i h8) T
          refine wA T (g:=?_)
          obtain ⟨v8,h9,hr⟩:=bs hr
          apply TO.cal (wn T) rfl goFn13 (base_Within_spec h9) rfl rfl rfl
          repeat exact sd T
          refine wa_ T (g:=?_)
          apply TO.pop1 (wn T) (pop_not rfl)
          repeat exact sd T
          refine wa_ T (g:=?_)
          rcases ifs hr with ⟨h10,hr⟩|⟨h10,hr⟩
          · have T:=an h10 T
            refine wa_ T (g:=?_)
            cases hr
            refine ⟨rfl,?_⟩
            exact wk_ T [] rfl .nil
          · have T:=an h10 T
            refine wa_ T (g:=?_)
            cases hr
            refine ⟨rfl,?_⟩
            exact wk_ T [] rfl .nil
        · have T:=an h7 T
          refine wa_ T (g:=?_)
          cases hr
          refine ⟨rfl,?_⟩
          exact wk_ T [] rfl .nil
      · intro e h;rcases e with _|e<;>cases h
      · try dsimp only
        rcases v9 with _|_
        · try dsimp only at hr
          try dsimp only
          refine wa_ T (g:=?_)
          cases hr
          refine ⟨.inr rfl,_,(ry T),?_⟩
          exact wk_ T [] rfl .nil
        · try dsimp only at hr
          try dsimp only
          refine wa_ T (g:=?_)
          cases hr
          refine ⟨.inr rfl,_,(ry T),?_⟩
          exact wk_ T [] rfl .nil
      · try dsimp only
        exact wk_ T [] rfl .nil
    · have T:=an h2 T
      refine wa_ T (g:=?_)
      cases hr
      refine ⟨.inr rfl,_,(ry T),?_⟩
      exact wk_ T [] rfl .nil
  rfl

end Go.Rex

namespace Go.Rex
open Go.Proofs
open Go Go.Rex Go.RowKit
set_option maxRecDepth 100000
set_option maxHeartbeats 200000
theorem ref10_isSteps_spec {v1 : Int} {v2 : Bool} (hr : ref10_isSteps v1 = some (v2)) : Spec (lim Tryz.prog) 35 [.v (.int .i64 v1)] ⟨[.v (.bool v2)],[]⟩:=by
  unfold ref10_isSteps at hr
  have T:=trivial
  apply Spec.fn Tryz.func35 rfl
  focus (simp [Tryz.f35]<;>exact rfl)
  focus
    refine wa_ T (g:=?_)
    obtain ⟨v3,h1,hr⟩:=bs hr
    apply TO.cal (wn T) rfl goFn13 (base_Within_spec h1) rfl rfl rfl
    repeat exact sd T
    refine wa_ T (g:=?_)
    cases hr
    refine ⟨.inr rfl,_,(ry T),?_⟩
    exact wr [] rfl .nil
  rfl

end Go.Rex

namespace Go.Rex
open Go.Proofs
open Go Go.Rex Go.RowKit
set_option maxRecDepth 100000
set_option maxHeartbeats 1000000
def y22:=an @ag22 <| an @ag3 <| an @cs45 <| an @fd45_0 <| an @fd45_1 <| an @fd45_2 <| an @ok45 <| an @so22 <| an @so36 <| @wi64_0a1
theorem ref10_CheckMoves_spec {v1 : (List (Int × (List Int) × Int))} {v2 : Int} {v3 : Int} (hr : ref10_CheckMoves v1 = some (v2,v3)) : Spec (lim Tryz.prog) 19 [.list 3 (v1.map e_iLi_i)] ⟨[.tuple [.v (.int .i64 v2),.v (.int .i64 v3)]],[]⟩:=by
  unfold ref10_CheckMoves at hr
  have T:=an y22 <| @e_iLi_i.eq_1
  apply Spec.fn Tryz.func19 rfl
  focus (simp [Tryz.f19]<;>exact rfl)
  focus
    refine wc_ T (g:=?_)
    rcases ifs hr with ⟨h1,hr⟩|⟨h1,hr⟩
    · have T:=an h1 T
      refine wa_ T (g:=?_)
      cases hr
      refine ⟨.inr rfl,_,(ry T),?_⟩
      exact wk_ T [] rfl .nil
    · have T:=an h1 T
      refine wa_ T (g:=?_)
      obtain ⟨v41,h40,hr⟩:=bs hr
      refine TX.loopE (step:=ref10_CheckMoves_l1 v1) (x:=0) h40 (fun v4=>⟨.list 3 (v1.map e_iLi_i) :: .junk :: .junk :: .junk :: .v (.int .i64 v4) :: .junk :: .junk :: .junk :: .junk :: .junk :: .junk :: .junk :: .junk :: .junk :: .junk :: .junk :: .junk :: .junk :: .junk :: .junk :: .junk :: .junk :: .junk :: .junk :: .junk :: .junk :: .junk :: .junk :: .junk :: .junk :: .junk :: .junk :: .junk :: .junk :: .junk :: .junk :: .junk :: .junk :: .junk :: .junk :: .junk :: .junk :: .junk :: .junk :: .junk :: .junk :: .junk :: .junk :: .junk :: .junk :: .junk :: .junk :: .junk :: .junk :: .junk :: .junk :: .junk :: .junk :: .junk :: .junk :: .junk :: .junk :: .junk :: .junk :: .junk :: .junk :: .junk :: .junk :: .junk :: .junk :: .junk :: [],[]⟩) (fun e=>match e with|(.inl (v22,v23))=>(.ret,⟨.junk :: .junk :: .v (.int .i64 v22) :: .v (.int .i64 v23) :: .junk :: .junk :: .junk :: .junk :: .junk :: .junk :: .junk :: .junk :: .junk :: .junk :: .junk :: .junk :: .junk :: .junk :: .junk :: .junk :: .junk :: .junk :: .junk :: .junk :: .junk :: .junk :: .junk :: .junk :: .junk :: .junk :: .junk :: .junk :: .junk :: .junk :: .junk :: .junk :: .junk :: .junk :: .junk :: .junk :: .junk :: .junk :: .junk :: .junk :: .junk :: .junk :: .junk :: .junk :: .junk :: .junk :: .junk :: .junk :: .junk :: .junk :: .junk :: .junk :: .junk :: .junk :: .junk :: .junk :: .junk :: .junk :: .junk :: .junk :: .junk :: .junk :: .junk :: .junk :: .junk :: .junk :: .junk :: [],[]⟩)|(.inr _)=>(.exit 0,⟨.junk :: .junk :: .junk :: .junk :: .junk :: .junk :: .junk :: .junk :: .junk :: .junk :: .junk :: .junk :: .junk :: .junk :: .junk :: .junk :: .junk :: .junk :: .junk :: .junk :: .junk :: .junk :: .junk :: .junk :: .junk :: .junk :: .junk :: .junk :: .junk :: .junk :: .junk :: .junk :: .junk :: .junk :: .junk :: .junk :: .junk :: .junk :: .junk :: .junk :: .junk :: .junk :: .junk :: .junk :: .junk :: .junk :: .junk :: .junk :: .junk :: .junk :: .junk :: .junk :: .junk :: .junk :: .junk :: .junk :: .junk :: .junk :: .junk :: .junk :: .junk :: .junk :: .junk :: .junk :: .junk :: .junk :: .junk :: .junk :: .junk :: .junk :: .junk :: [],[]⟩)) ?_ ?_ ?_ ?_
      · rintro v4 v0 hr
        dsimp only [ref10_CheckMoves_l1] at hr
        try dsimp only
        refine wc_ T (g:=?_)
        rcases ifs hr with ⟨h21,hr⟩|⟨h21,hr⟩
        · have T:=an h21 T
          refine wa_ T (g:=?_)
          obtain ⟨⟨v24,v25,v26⟩,h22,hr⟩:=bs hr
          try dsimp only at hr
          have T:=an (gx e_iLi_i h22) T
          refine wA T (g:=?_)
          obtain ⟨v27,h23,hr⟩:=bs hr
          apply TO.cal (wn T) rfl goFn13 (base_Within_spec h23) rfl rfl rfl
          repeat exact sd T
          refine wa_ T (g:=?_)
          apply TO.pop1 (wn T) (pop_not rfl)
          repeat exact sd T
          refine wa_ T (g:=?_)
          rcases ifs hr with ⟨h24,hr⟩|⟨h24,hr⟩
          · have T:=an h24 T
            refine wa_ T (g:=?_)
            rcases ifs hr with ⟨h25,hr⟩|⟨h25,hr⟩
            · have T:=an h25 T
              refine wA T (g:=?_)
              obtain ⟨⟨v28,v29,v30⟩,h26,hr⟩:=bs hr
              try dsimp only at hr
              have T:=an (gx e_iLi_i h26) T
              refine wA T (g:=?_)
              rcases ifs hr with ⟨h27,hr⟩|⟨h27,hr⟩
              · have T:=an h27 T
                refine wa_ T (g:=?_)
                cases hr
                refine ⟨rfl,?_⟩
                exact wk_ T [] rfl .nil
              · have T:=an h27 T
                refine wA T (g:=?_)
                obtain ⟨v31,h28,hr⟩:=bs hr
                apply TO.cal (wn T) rfl goFn34 (ref10_LevelsErr_spec h28) rfl rfl rfl
                repeat exact sd T
                refine wa_ T (g:=?_)
                rcases ifs hr with ⟨h29,hr⟩|⟨h29,hr⟩
                · have T:=an h29 T
                  refine wa_ T (g:=?_)
                  cases hr
                  refine ⟨rfl,?_⟩
                  exact wk_ T [] rfl .nil
                · have T:=an h29 T
                  refine wC T (g:=?_)
                  obtain ⟨⟨v32,v33,v34⟩,h30,hr⟩:=bs hr
                  try dsimp only at hr
                  have T:=an (gx e_iLi_i h30) T
                  refine wC T (g:=?_)
                  rcases ifs hr with ⟨h31,hr⟩|⟨h31,hr⟩
                  · have T:=an h31 T
                    refine wa_ T (g:=?_)
                    cases hr
                    refine ⟨rfl,?_⟩
                    exact wk_ T [] rfl .nil
                  · have T:=an h31 T
                    refine wA T (g:=?_)
                    obtain ⟨v35,h32,hr⟩:=bs hr
                    apply TO.cal (wn T) rfl goFn35 (ref10_isSteps_spec h32) rfl rfl rfl
                    repeat exact sd T
                    refine wa_ T (g:=?_)
                    apply TO.pop1 (wn T) (pop_not rfl)
                    repeat exact sd T
                    refine wa_ T (g:=?_)
                    rcases ifs hr with ⟨h33,hr⟩|⟨h33,hr⟩
                    · have T:=an h33 T
                      refine wa_ T (g:=?_)
                      cases hr
                      refine ⟨rfl,?_⟩
                      exact wk_ T [] rfl .nil
                    · have T:=an h33 T
                      refine wa_ T (g:=?_)
                      cases hr
                      refine ⟨rfl,?_⟩
                      exact wk_ T [] rfl .nil
            · have T:=an h25 T
              refine wA T (g:=?_)
              obtain ⟨v36,h34,hr⟩:=bs hr
              apply TO.cal (wn T) rfl goFn34 (ref10_LevelsErr_spec h34) rfl rfl rfl
              repeat exact sd T
              refine wa_ T (g:=?_)
              rcases ifs hr with ⟨h35,hr⟩|⟨h35,hr⟩
              · have T:=an h35 T
                refine wa_ T (g:=?_)
                cases hr
                refine ⟨rfl,?_⟩
                exact wk_ T [] rfl .nil
              · have T:=an h35 T
                refine wC T (g:=?_)
                obtain ⟨⟨v37,v38,v39⟩,h36,hr⟩:=bs hr
                try dsimp only at hr
                have T:=an (gx e_iLi_i h36) T
                refine wC T (g:=?_)
                rcases ifs hr with ⟨h37,hr⟩|⟨h37,hr⟩
                · have T:=an h37 T
                  refine wa_ T (g:=?_)
                  cases hr
                  refine ⟨rfl,?_⟩
                  exact wk_ T [] rfl .nil
                · have T:=an h37 T
                  refine wA T (g:=?_)
                  obtain ⟨v40,h38,hr⟩:=bs hr
                  apply TO.cal (wn T) rfl goFn35 (ref10_isSteps_spec h38) rfl rfl rfl
                  repeat exact sd T
                  refine wa_ T (g:=?_)
                  apply TO.pop1 (wn T) (pop_not rfl)
                  repeat exact sd T
                  refine wa_ T (g:=?_)
                  rcases ifs hr with ⟨h39,hr⟩|⟨h39,hr⟩
                  · have T:=an h39 T
                    refine wa_ T (g:=?_)
                    cases hr
                    refine ⟨rfl,?_⟩
                    exact wk_ T [] rfl .nil
                  · have T:=an h39 T
                    refine wa_ T (g:=?_)
                    cases hr
                    refine ⟨rfl,?_⟩
                    exact wk_ T [] rfl .nil
          · have T:=an h24 T
            refine wa_ T (g:=?_)
            cases hr
            refine ⟨rfl,?_⟩
            exact wk_ T [] rfl .nil
        · have T:=an h21 T
          refine wa_ T (g:=?_)
          cases hr
          refine ⟨rfl,?_⟩
          exact wk_ T [] rfl .nil
      · intro e h;rcases e with _|e<;>cases h
      · try dsimp only
        rcases v41 with ⟨v42,v43⟩|_
        · try dsimp only at hr
          try dsimp only
          refine wa_ T (g:=?_)
          cases hr
          refine ⟨.inr rfl,_,(ry T),?_⟩
          exact wk_ T [] rfl .nil
        · try dsimp only at hr
          try dsimp only
          refine wa_ T (g:=?_)
          cases hr
          refine ⟨.inr rfl,_,(ry T),?_⟩
          exact wk_ T [] rfl .nil
      · try dsimp only
        exact wk_ T [] rfl .nil
  rfl

end Go.Rex

namespace Go.Rex
open Go.Proofs
open Go Go.Rex Go.RowKit
set_option maxRecDepth 100000
set_option maxHeartbeats 200000
theorem base_Floor_spec {v1 : Int} {v2 : Int} {v3 : Int} (hr : base_Floor v1 v2 = some (v3)) : Spec (lim Tryz.prog) 36 [.v (.int .i64 v1),.v (.int .i64 v2)] ⟨[.v (.int .i64 v3)],[]⟩:=by
  unfold base_Floor at hr
  have T:=trivial
  apply Spec.fn Tryz.func36 rfl
  focus (simp [Tryz.f36]<;>exact rfl)
  focus
    refine wa_ T (g:=?_)
    by_cases h1 : v2 = 0
    · rw [if_pos h1] at hr
      cases hr
    · rw [if_neg h1] at hr
      have T:=an h1 T
      refine wa_ T (g:=?_)
      rcases ifs hr with ⟨h2,hr⟩|⟨h2,hr⟩
      · have T:=an h2 T
        refine wa_ T (g:=?_)
        cases hr
        refine ⟨.inr rfl,_,(ry T),?_⟩
        exact wk_ T [] rfl .nil
      · have T:=an h2 T
        refine wa_ T (g:=?_)
        cases hr
        refine ⟨.inr rfl,_,(ry T),?_⟩
        exact wk_ T [] rfl .nil
  rfl

end Go.Rex

namespace Go.Rex
open Go.Proofs
open Go Go.Rex Go.RowKit
set_option maxRecDepth 100000
set_option maxHeartbeats 200000
def y23:=an @ag22 <| an @ag3 <| an @by3 <| an @cs3 <| an @fd24_0 <| an @fd24_1 <| an @fd24_2 <| an @fd24_3 <| an @ni22 <| an @ok3 <| an @so22 <| an @zc3 <| @wi64_0a1
theorem ref10_FadeAt_spec {v1 : (List Int)} {v2 : (List Int)} {v3 : Int} {v4 : Int} {v5 : (List Int)} (hr : ref10_FadeAt v1 v2 v3 v4 = some (v5)) : Spec (lim Tryz.prog) 12 [.agg [.list 1 (v1.map e_i),.list 1 (v2.map e_i),.v (.int .i64 v3),.v (.int .i64 v4)]] ⟨[.lsl 0 0 v5.length],[.rows 1 (v5.map e_i)]⟩:=by
  unfold ref10_FadeAt at hr
  have T:=an y23 <| @e_i.eq_1
  apply Spec.fn Tryz.func12 rfl
  focus (simp [Tryz.f12]<;>exact rfl)
  focus
    refine wb_ T (g:=?_)
    apply TX.vt (α:=Int) e_i 3 1 rfl
    repeat exact sd T
    with_reducible apply TX.here
    refine wa_ T (g:=?_)
    obtain ⟨v19,h15,hr⟩:=bs hr
    refine TX.loopE (step:=ref10_FadeAt_l1 v1 v2 v3 v4) (x:=(([] : List Int),0)) h15 (fun (v6,v7)=>⟨.junk :: .fptr true [.list 1 (v1.map e_i),.list 1 (v2.map e_i),.v (.int .i64 v3),.v (.int .i64 v4)] 0 :: .junk :: .lsl 0 0 v6.length :: .v (.int .i64 v7) :: .junk :: .junk :: .junk :: .junk :: .junk :: .junk :: .junk :: .junk :: .junk :: .junk :: .junk :: .junk :: .junk :: .junk :: .junk :: .junk :: .junk :: .junk :: .junk :: .junk :: .junk :: .junk :: .junk :: .junk :: .junk :: .junk :: .junk :: .junk :: .junk :: .junk :: .junk :: .junk :: .junk :: .junk :: .junk :: .junk :: .junk :: .junk :: .junk :: .junk :: .junk :: .junk :: .junk :: .junk :: .junk :: .junk :: .junk :: .junk :: .junk :: .junk :: .junk :: [],[.rows 1 (v6.map e_i)]⟩) (fun v13=>(.exit 0,⟨.junk :: .junk :: .junk :: .lsl 0 0 v13.length :: .junk :: .junk :: .junk :: .junk :: .junk :: .junk :: .junk :: .junk :: .junk :: .junk :: .junk :: .junk :: .junk :: .junk :: .junk :: .junk :: .junk :: .junk :: .junk :: .junk :: .junk :: .junk :: .junk :: .junk :: .junk :: .junk :: .junk :: .junk :: .junk :: .junk :: .junk :: .junk :: .junk :: .junk :: .junk :: .junk :: .junk :: .junk :: .junk :: .junk :: .junk :: .junk :: .junk :: .junk :: .junk :: .junk :: .junk :: .junk :: .junk :: .junk :: .junk :: .junk :: [],[.rows 1 (v13.map e_i)]⟩)) ?_ ?_ ?_ ?_
    · rintro ⟨v6,v7⟩ v0 hr
      dsimp only [ref10_FadeAt_l1] at hr
      try dsimp only
      refine wC T (g:=?_)
      rcases ifs hr with ⟨h8,hr⟩|⟨h8,hr⟩
      · have T:=an h8 T
        refine wA T (g:=?_)
        obtain ⟨v14,h9,hr⟩:=bs hr
        have h9m:=tidx_map (f:=e_i) h9
        have h9l:=getI_lt h9
        try simp only [List.length_set] at h9l
        have h9a:=getI_at h9
        have T:=an h9m T
        have T:=an h9l T
        have T:=an h9a T
        refine wA T (g:=?_)
        rcases ifs hr with ⟨h10,hr⟩|⟨h10,hr⟩
        · have T:=an h10 T
          refine wA T (g:=?_)
          obtain ⟨v15,h11,hr⟩:=bs hr
          have h11m:=tidx_map (f:=e_i) h11
          have h11l:=getI_lt h11
          try simp only [List.length_set] at h11l
          have h11a:=getI_at h11
          have T:=an h11m T
          have T:=an h11l T
          have T:=an h11a T
          refine wA T (g:=?_)
          obtain ⟨v16,h12,hr⟩:=bs hr
          apply TD.cal (wn T) rfl goFn36 (base_Floor_spec h12) rfl rfl rfl
          repeat exact sd T
          refine wa_ T (g:=?_)
          apply TO.bm e_i ([(IntKind.i64.wrap (v15 + v16))] : List Int) (wn T) rfl (by simp only [zz,y23,e_i,Nat.reduceAdd,Nat.reduceMul,Nat.reduceLeDiff,Nat.reduceEqDiff,tslice,tparts,h8,h9m,h9l,h9a,h10,h11m,h11l,h11a];exact rfl) rfl
          repeat exact sd T
          refine wa_ T (g:=?_)
          obtain ⟨v17,h13,hr⟩:=bs hr
          apply TO.ap (f:=e_i) (xs:=v6) (ys:=([(IntKind.i64.wrap (v15 + v16))] : List Int)) (wn T) rfl rfl (by first|rfl|simp only [List.length_set]) rfl rfl so22 ni22 zc3 rfl (by rw [by3];exact h13) (fun _=>⟨rfl,rfl,rfl⟩)
          repeat exact sd T
          refine wa_ T (g:=?_)
          cases hr
          refine ⟨rfl,?_⟩
          exact wk_ T [some 0] rfl (.rows .nil rfl rfl)
        · have T:=an h10 T
          refine wa_ T (g:=?_)
          apply TO.bm e_i ([v14] : List Int) (wn T) rfl (by simp only [zz,y23,e_i,Nat.reduceAdd,Nat.reduceMul,Nat.reduceLeDiff,Nat.reduceEqDiff,tslice,tparts,h8,h9m,h9l,h9a,h10];exact rfl) rfl
          repeat exact sd T
          refine wa_ T (g:=?_)
          obtain ⟨v18,h14,hr⟩:=bs hr
          apply TO.ap (f:=e_i) (xs:=v6) (ys:=([v14] : List Int)) (wn T) rfl rfl (by first|rfl|simp only [List.length_set]) rfl rfl so22 ni22 zc3 rfl (by rw [by3];exact h14) (fun _=>⟨rfl,rfl,rfl⟩)
          repeat exact sd T
          refine wa_ T (g:=?_)
          cases hr
          refine ⟨rfl,?_⟩
          exact wk_ T [some 0] rfl (.rows .nil rfl rfl)
      · have T:=an h8 T
        refine wa_ T (g:=?_)
        cases hr
        refine ⟨rfl,?_⟩
        exact wk_ T [some 0] rfl (.rows .nil rfl rfl)
    · intro e h;cases h
    · try dsimp only
      refine wa_ T (g:=?_)
      cases hr
      refine ⟨.inr rfl,_,(ry T),?_⟩
      exact wr [some 0] rfl (.rows .nil rfl rfl)
    · try dsimp only
      exact wr [some 0] rfl (.rows .nil rfl rfl)
  rfl

end Go.Rex

namespace Go.Rex
open Go.Proofs
open Go Go.Rex Go.RowKit
set_option maxRecDepth 100000
set_option maxHeartbeats 1000000
def y24:=an @ag22 <| an @ag3 <| an @by3 <| an @cs45 <| an @fd45_0 <| an @fd45_1 <| an @fd45_2 <| an @ok45 <| an @so22 <| an @so36 <| an @st24 <| an @zc24 <| an @zc3 <| @wi64_0a1
theorem ref10_LevelsAt_spec {v1 : (List (Int × (List Int) × Int))} {v2 : Int} {v3 : (List Int)} (hr : ref10_LevelsAt v1 v2 = some (v3)) : Spec (lim Tryz.prog) 20 [.list 3 (v1.map e_iLi_i),.v (.int .i64 v2)] ⟨[.lsl 0 0 v3.length],[.rows 1 (v3.map e_i)]⟩:=by
  unfold ref10_LevelsAt at hr
  have T:=an y24 <| an @e_i.eq_1 <| @e_iLi_i.eq_1
  apply Spec.fn Tryz.func20 rfl
  focus (simp [Tryz.f20]<;>exact rfl)
  focus
    refine wc_ T (g:=?_)
    rcases ifs hr with ⟨h1,hr⟩|⟨h1,hr⟩
    · have T:=an h1 T
      refine wa_ T (g:=?_)
      cases hr
      refine ⟨.inr rfl,_,(ry T),?_⟩
      exact wk_ T [none] rfl (.virt .nil)
    · have T:=an h1 T
      refine wa_ T (g:=?_)
      obtain ⟨⟨v4,v5,v6⟩,h2,hr⟩:=bs hr
      try dsimp only at hr
      have T:=an (gx e_iLi_i h2) T
      refine wC T (g:=?_)
      obtain ⟨v7,h3,hr⟩:=bs hr
      apply TO.mk e_i h3 (wn T) rfl rfl so22 zc3 by3 rfl rfl rfl
      repeat exact sd T
      refine wa_ T (g:=?_)
      obtain ⟨v27,h18,hr⟩:=bs hr
      refine TX.loopE (step:=ref10_LevelsAt_l1 v1 v2) (x:=(v7,0)) h18 (fun (v8,v9)=>⟨.list 3 (v1.map e_iLi_i) :: .v (.int .i64 v2) :: .junk :: .junk :: .junk :: .lsl 0 0 v8.length :: .v (.int .i64 v9) :: .junk :: .junk :: .junk :: .junk :: .junk :: .junk :: .junk :: .junk :: .junk :: .junk :: .junk :: .junk :: .junk :: .junk :: .junk :: .junk :: .junk :: .junk :: .junk :: .junk :: .junk :: .junk :: .junk :: .junk :: .junk :: .junk :: .junk :: .junk :: .junk :: .junk :: .junk :: .junk :: .junk :: .junk :: .junk :: .junk :: .junk :: .junk :: .junk :: .junk :: .junk :: .junk :: .junk :: .junk :: .junk :: .junk :: .junk :: .junk :: .junk :: .junk :: .junk :: .junk :: .junk :: .junk :: .junk :: .junk :: .junk :: .junk :: .junk :: .junk :: .junk :: .junk :: .junk :: .junk :: .junk :: .junk :: [],[.rows 1 (v8.map e_i)]⟩) (fun v18=>(.exit 0,⟨.junk :: .junk :: .junk :: .junk :: .junk :: .lsl 0 0 v18.length :: .junk :: .junk :: .junk :: .junk :: .junk :: .junk :: .junk :: .junk :: .junk :: .junk :: .junk :: .junk :: .junk :: .junk :: .junk :: .junk :: .junk :: .junk :: .junk :: .junk :: .junk :: .junk :: .junk :: .junk :: .junk :: .junk :: .junk :: .junk :: .junk :: .junk :: .junk :: .junk :: .junk :: .junk :: .junk :: .junk :: .junk :: .junk :: .junk :: .junk :: .junk :: .junk :: .junk :: .junk :: .junk :: .junk :: .junk :: .junk :: .junk :: .junk :: .junk :: .junk :: .junk :: .junk :: .junk :: .junk :: .junk :: .junk :: .junk :: .junk :: .junk :: .junk :: .junk :: .junk :: .junk :: .junk :: .junk :: [],[.rows 1 (v18.map e_i)]⟩)) ?_ ?_ ?_ ?_
      · rintro ⟨v8,v9⟩ v0 hr
        dsimp only [ref10_LevelsAt_l1] at hr
        try dsimp only
        refine wc_ T (g:=?_)
        rcases ifs hr with ⟨h11,hr⟩|⟨h11,hr⟩
        · have T:=an h11 T
          refine wa_ T (g:=?_)
          obtain ⟨⟨v19,v20,v21⟩,h12,hr⟩:=bs hr
          try dsimp only at hr
          have T:=an (gx e_iLi_i h12) T
          refine wA T (g:=?_)
          rcases ifs hr with ⟨h13,hr⟩|⟨h13,hr⟩
          · have T:=an h13 T
            refine wc_ T (g:=?_)
            rcases ifs hr with ⟨h14,hr⟩|⟨h14,hr⟩
            · have T:=an h14 T
              refine wa_ T (g:=?_)
              obtain ⟨⟨v22,v23,v24⟩,h15,hr⟩:=bs hr
              try dsimp only at hr
              have T:=an (gx e_iLi_i h15) T
              refine wA T (g:=?_)
              apply TO.pop1 (wn T) (pop_min rfl rfl)
              repeat exact sd T
              refine wA T (g:=?_)
              apply TD.pop1 (wn T) (pop_min rfl rfl)
              repeat exact sd T
              refine wa_ T (g:=?_)
              obtain ⟨v25,h16,hr⟩:=bs hr
              apply TD.lok (wn T) rfl goFn12 (ref10_FadeAt_spec h16) (vw T) rfl rfl (by simp [clTB,cl,e_i,e_iLi_i])
              repeat exact sd T
              refine wa_ T (g:=?_)
              cases hr
              refine ⟨rfl,?_⟩
              exact wk_ T [some 1] rfl (.rows .nil rfl rfl)
            · have T:=an h14 T
              refine wA T (g:=?_)
              apply TD.pop1 (wn T) (pop_min rfl rfl)
              repeat exact sd T
              refine wa_ T (g:=?_)
              obtain ⟨v26,h17,hr⟩:=bs hr
              apply TD.lok (wn T) rfl goFn12 (ref10_FadeAt_spec h17) (vw T) rfl rfl (by simp [clTB,cl,e_i,e_iLi_i])
              repeat exact sd T
              refine wa_ T (g:=?_)
              cases hr
              refine ⟨rfl,?_⟩
              exact wk_ T [some 1] rfl (.rows .nil rfl rfl)
          · have T:=an h13 T
            refine wa_ T (g:=?_)
            cases hr
            refine ⟨rfl,?_⟩
            exact wk_ T [some 0] rfl (.rows .nil rfl rfl)
        · have T:=an h11 T
          refine wa_ T (g:=?_)
          cases hr
          refine ⟨rfl,?_⟩
          exact wk_ T [some 0] rfl (.rows .nil rfl rfl)
      · intro e h;cases h
      · try dsimp only
        refine wa_ T (g:=?_)
        cases hr
        refine ⟨.inr rfl,_,(ry T),?_⟩
        exact wk_ T [some 0] rfl (.rows .nil rfl rfl)
      · try dsimp only
        exact wk_ T [some 0] rfl (.rows .nil rfl rfl)
  rfl

end Go.Rex

namespace Go.Rex
open Go.Proofs
open Go Go.Rex Go.RowKit
set_option maxRecDepth 100000
set_option maxHeartbeats 200000
def y25:=an @ag3 <| an @cs3 <| an @ok3 <| an @so22 <| @wi64_0a1
theorem base_Ints_spec {v1 : (List Int)} {v2 : (List Int)} {v3 : Bool} (hr : base_Ints v1 v2 = some (v3)) : Spec (lim Tryz.prog) 11 [.list 1 (v1.map e_i),.list 1 (v2.map e_i)] ⟨[.v (.bool v3)],[]⟩:=by
  unfold base_Ints at hr
  have T:=an y25 <| @e_i.eq_1
  apply Spec.fn Tryz.func11 rfl
  focus (simp [Tryz.f11]<;>exact rfl)
  focus
    refine wc_ T (g:=?_)
    rcases ifs hr with ⟨h1,hr⟩|⟨h1,hr⟩
    · have T:=an h1 T
      refine wa_ T (g:=?_)
      cases hr
      refine ⟨.inr rfl,_,(ry T),?_⟩
      exact wk_ T [] rfl .nil
    · have T:=an h1 T
      refine wa_ T (g:=?_)
      obtain ⟨v9,h10,hr⟩:=bs hr
      refine TX.loopE (step:=base_Ints_l1 v1 v2) (x:=0) h10 (fun v4=>⟨.list 1 (v1.map e_i) :: .list 1 (v2.map e_i) :: .junk :: .junk :: .junk :: .v (.int .i64 v4) :: .junk :: .junk :: .junk :: .junk :: .junk :: .junk :: .junk :: .junk :: .junk :: .junk :: .junk :: .junk :: .junk :: .junk :: .junk :: .junk :: .junk :: .junk :: .junk :: .junk :: [],[]⟩) (fun e=>match e with|(.inl _)=>(.ret,⟨.junk :: .junk :: .junk :: .junk :: .v (.bool false) :: .junk :: .junk :: .junk :: .junk :: .junk :: .junk :: .junk :: .junk :: .junk :: .junk :: .junk :: .junk :: .junk :: .junk :: .junk :: .junk :: .junk :: .junk :: .junk :: .junk :: .junk :: [],[]⟩)|(.inr _)=>(.exit 0,⟨.junk :: .junk :: .junk :: .junk :: .junk :: .junk :: .junk :: .junk :: .junk :: .junk :: .junk :: .junk :: .junk :: .junk :: .junk :: .junk :: .junk :: .junk :: .junk :: .junk :: .junk :: .junk :: .junk :: .junk :: .junk :: .junk :: [],[]⟩)) ?_ ?_ ?_ ?_
      · rintro v4 v0 hr
        dsimp only [base_Ints_l1] at hr
        try dsimp only
        refine wc_ T (g:=?_)
        rcases ifs hr with ⟨h6,hr⟩|⟨h6,hr⟩
        · have T:=an h6 T
          refine wa_ T (g:=?_)
          obtain ⟨v7,h7,hr⟩:=bs hr
          have T:=an (gx e_i h7) T
          refine wA T (g:=?_)
          obtain ⟨v8,h8,hr⟩:=bs hr
          have T:=an (gx e_i h8) T
          refine wA T (g:=?_)
          rcases ifs hr with ⟨h9,hr⟩|⟨h9,hr⟩
          · have T:=an h9 T
            refine wa_ T (g:=?_)
            cases hr
            refine ⟨rfl,?_⟩
            exact wk_ T [] rfl .nil
          · have T:=an h9 T
            refine wa_ T (g:=?_)
            cases hr
            refine ⟨rfl,?_⟩
            exact wk_ T [] rfl .nil
        · have T:=an h6 T
          refine wa_ T (g:=?_)
          cases hr
          refine ⟨rfl,?_⟩
          exact wk_ T [] rfl .nil
      · intro e h;rcases e with _|e<;>cases h
      · try dsimp only
        rcases v9 with _|_
        · try dsimp only at hr
          try dsimp only
          refine wa_ T (g:=?_)
          cases hr
          refine ⟨.inr rfl,_,(ry T),?_⟩
          exact wk_ T [] rfl .nil
        · try dsimp only at hr
          try dsimp only
          refine wa_ T (g:=?_)
          cases hr
          refine ⟨.inr rfl,_,(ry T),?_⟩
          exact wk_ T [] rfl .nil
      · try dsimp only
        exact wk_ T [] rfl .nil
  rfl

end Go.Rex

namespace Go.Rex
open Go.Proofs
open Go Go.Rex Go.RowKit
set_option maxRecDepth 100000

end Go.Rex

namespace Go.Rex
open Go.Proofs
open Go Go.Rex Go.RowKit
set_option maxRecDepth 100000
set_option maxHeartbeats 4000000
def y26:=an @ag3 <| an @ag45 <| an @cs45 <| an @fd45_0 <| an @fd45_2 <| an @ok45 <| an @so22 <| an @so36 <| @zc45
theorem law10_ShowMoves_law {v1 : (List (Int × (List Int) × Int))} {v2 : Int} (hr : law10_ShowMoves v1 v2 = some true) {Fz : Nat → Prop} {h : List Blk} {vs : List Value} (hfz : ∀ n, Fz n → n < h.length) (hargs : VLs Fz h noL [.list 3 (v1.map e_iLi_i), .v (.int .i64 v2)] vs)
    {B lo : Nat} {D : Nat → Prop} {m : NMap} {w : World} {args' : List Value} (hrel : Rel B lo D m h w) (hlo : lo ≤ h.length) (hargs' : VRs D m vs args') : Calls Tryz.prog 4 ⟨args'⟩ w (fun e w'=>e = .returned (.bool true) ∧ Below w.heap.size w w'):=by
  unfold law10_ShowMoves at hr
  have T:=an y26 <| @e_iLi_i.eq_1
  refine law_tex follows awake_true Tryz.func4 rfl (tm0:=.list 3 (v1.map e_iLi_i) :: .v (.int .i64 v2) :: .junk :: .junk :: .junk :: .junk :: .junk :: .junk :: .junk :: .junk :: .junk :: .junk :: .junk :: .junk :: .junk :: .junk :: .junk :: .junk :: .junk :: .junk :: .junk :: .junk :: .junk :: .junk :: .junk :: .junk :: .junk :: .junk :: .junk :: .junk :: .junk :: .junk :: .junk :: .junk :: .junk :: .junk :: .junk :: .junk :: .junk :: .junk :: .junk :: .junk :: .junk :: .junk :: .junk :: .junk :: .junk :: .junk :: .junk :: .junk :: .junk :: .junk :: .junk :: .junk :: .junk :: .junk :: .junk :: .junk :: .junk :: .junk :: .junk :: .junk :: .junk :: .junk :: .junk :: .junk :: .junk :: .junk :: .junk :: .junk :: .junk :: .junk :: .junk :: .junk :: .junk :: .junk :: .junk :: .junk :: .junk :: .junk :: .junk :: .junk :: .junk :: .junk :: .junk :: .junk :: .junk :: .junk :: .junk :: .junk :: .junk :: .junk :: .junk :: .junk :: .junk :: .junk :: .junk :: .junk :: .junk :: .junk :: .junk :: .junk :: .junk :: .junk :: .junk :: .junk :: .junk :: .junk :: .junk :: .junk :: .junk :: .junk :: .junk :: .junk :: .junk :: []) (by simp [Tryz.f4]<;>exact rfl) ?_ hfz hargs hrel hlo hargs'
  refine wa_ T (g:=?_)
  apply TO.cal (wn T) rfl goFn6 Spec.awake rfl rfl rfl
  repeat exact sd T
  refine wa_ T (g:=?_)
  apply TO.pop1 (wn T) (pop_not rfl)
  repeat exact sd T
  refine wa_ T (g:=?_)
  obtain ⟨v4,h1,hr⟩:=bs hr
  apply TO.cal (wn T) rfl goFn14 (Spec.ov (law10_fewMoves_spec h1) (by decide)) rfl rfl rfl
  repeat exact sd T
  refine wa_ T (g:=?_)
  apply TO.pop1 (wn T) (pop_not rfl)
  repeat exact sd T
  refine wa_ T (g:=?_)
  rcases ifs hr with ⟨h2,hr⟩|⟨h2,hr⟩
  · have T:=an h2 T
    refine wa_ T (g:=?_)
    obtain ⟨v5,h3,hr⟩:=bs hr
    apply TO.cal (wn T) rfl goFn16 (Spec.ov (ref10_CopyMoves_spec h3) (by decide)) rfl rfl rfl
    repeat exact sd T
    refine wa_ T (g:=?_)
    obtain ⟨⟨v6,v7⟩,h4,hr⟩:=bs hr
    try dsimp only at hr
    apply TO.lok (wn T) rfl goFn15 (Spec.ov (show_CheckMoves_spec h4) (by decide)) (vw T) rfl rfl (by simp [clTB,cl,e_i,e_iLi_i])
    repeat exact sd T
    refine wa_ T (g:=?_)
    obtain ⟨v8,h5,hr⟩:=bs hr
    apply TO.cal (wn T) rfl goFn16 (Spec.ov (ref10_CopyMoves_spec h5) (by decide)) rfl rfl rfl
    repeat exact sd T
    refine wa_ T (g:=?_)
    obtain ⟨⟨v9,v10⟩,h6,hr⟩:=bs hr
    try dsimp only at hr
    apply TO.lok (wn T) rfl goFn17 (Spec.ov (show_LevelsAt_spec h6) (by decide)) (vw T) rfl rfl (by simp [clTB,cl,e_i,e_iLi_i])
    repeat exact sd T
    refine wa_ T (g:=?_)
    obtain ⟨v11,h7,hr⟩:=bs hr
    apply TO.cal (wn T) rfl goFn16 (Spec.ov (ref10_CopyMoves_spec h7) (by decide)) rfl rfl rfl
    repeat exact sd T
    refine wa_ T (g:=?_)
    obtain ⟨⟨v12,v13⟩,h8,hr⟩:=bs hr
    try dsimp only at hr
    apply TO.lok (wn T) rfl goFn18 (Spec.ov (show_StillFrom_spec h8) (by decide)) (vw T) rfl rfl (by simp [clTB,cl,e_i,e_iLi_i])
    repeat exact sd T
    refine wa_ T (g:=?_)
    obtain ⟨⟨v14,v15⟩,h9,hr⟩:=bs hr
    try dsimp only at hr
    apply TO.cal (wn T) rfl goFn19 (Spec.ov (ref10_CheckMoves_spec h9) (by decide)) rfl rfl rfl
    repeat exact sd T
    refine wa_ T (g:=?_)
    rcases ifs hr with ⟨h10,hr⟩|⟨h10,hr⟩
    · have T:=an h10 T
      refine wa_ T (g:=?_)
      exact lv T hr
    · have T:=an h10 T
      refine wa_ T (g:=?_)
      rcases ifs hr with ⟨h11,hr⟩|⟨h11,hr⟩
      · have T:=an h11 T
        refine wa_ T (g:=?_)
        exact lv T hr
      · have T:=an h11 T
        refine wa_ T (g:=?_)
        rcases ifs hr with ⟨h12,hr⟩|⟨h12,hr⟩
        · have T:=an h12 T
          refine wa_ T (g:=?_)
          rcases ifs hr with ⟨h13,hr⟩|⟨h13,hr⟩
          · have T:=an h13 T
            refine wa_ T (g:=?_)
            rcases ifs hr with ⟨h14,hr⟩|⟨h14,hr⟩
            · have T:=an h14 T
              refine wc_ T (g:=?_)
              rcases ifs hr with ⟨h15,hr⟩|⟨h15,hr⟩
              · have T:=an h15 T
                refine wa_ T (g:=?_)
                exact lv T hr
              · have T:=an h15 T
                refine wa_ T (g:=?_)
                exact lv T hr
            · have T:=an h14 T
              refine wa_ T (g:=?_)
              exact lv T hr
          · have T:=an h13 T
            refine wa_ T (g:=?_)
            exact lv T hr
        · have T:=an h12 T
          refine wc_ T (g:=?_)
          rcases ifs hr with ⟨h16,hr⟩|⟨h16,hr⟩
          · have T:=an h16 T
            refine wa_ T (g:=?_)
            rcases ifs hr with ⟨h17,hr⟩|⟨h17,hr⟩
            · have T:=an h17 T
              refine wa_ T (g:=?_)
              exact lv T hr
            · have T:=an h17 T
              refine wa_ T (g:=?_)
              rcases ifs hr with ⟨h18,hr⟩|⟨h18,hr⟩
              · have T:=an h18 T
                refine wa_ T (g:=?_)
                exact lv T hr
              · have T:=an h18 T
                refine wa_ T (g:=?_)
                obtain ⟨v16,h19,hr⟩:=bs hr
                apply TO.cal (wn T) rfl goFn13 (Spec.ov (base_Within_spec h19) (by decide)) rfl rfl rfl
                repeat exact sd T
                refine wa_ T (g:=?_)
                apply TO.pop1 (wn T) (pop_not rfl)
                repeat exact sd T
                refine wa_ T (g:=?_)
                rcases ifs hr with ⟨h20,hr⟩|⟨h20,hr⟩
                · have T:=an h20 T
                  refine wa_ T (g:=?_)
                  rcases ifs hr with ⟨h21,hr⟩|⟨h21,hr⟩
                  · have T:=an h21 T
                    refine wa_ T (g:=?_)
                    obtain ⟨v17,h22,hr⟩:=bs hr
                    apply TO.cal (wn T) rfl goFn20 (Spec.ov (ref10_LevelsAt_spec h22) (by decide)) rfl rfl rfl
                    repeat exact sd T
                    refine wa_ T (g:=?_)
                    obtain ⟨v18,h23,hr⟩:=bs hr
                    apply TO.lok (wn T) rfl goFn11 (Spec.ov (base_Ints_spec h23) (by decide)) (vw T) rfl rfl (by simp [clTB,cl,e_i,e_iLi_i])
                    repeat exact sd T
                    refine wa_ T (g:=?_)
                    exact lv T hr
                  · have T:=an h21 T
                    refine wa_ T (g:=?_)
                    exact lv T hr
                · have T:=an h20 T
                  refine wa_ T (g:=?_)
                  rcases ifs hr with ⟨h24,hr⟩|⟨h24,hr⟩
                  · have T:=an h24 T
                    refine wc_ T (g:=?_)
                    exact lv T hr
                  · have T:=an h24 T
                    refine wa_ T (g:=?_)
                    exact lv T hr
          · have T:=an h16 T
            refine wc_ T (g:=?_)
            obtain ⟨⟨v19,v20,v21⟩,h25,hr⟩:=bs hr
            try dsimp only at hr
            have T:=an (gx e_iLi_i h25) T
            refine wA T (g:=?_)
            rcases ifs hr with ⟨h26,hr⟩|⟨h26,hr⟩
            · have T:=an h26 T
              refine wa_ T (g:=?_)
              exact lv T hr
            · have T:=an h26 T
              refine wA T (g:=?_)
              rcases ifs hr with ⟨h27,hr⟩|⟨h27,hr⟩
              · have T:=an h27 T
                refine wa_ T (g:=?_)
                exact lv T hr
              · have T:=an h27 T
                refine wa_ T (g:=?_)
                obtain ⟨v22,h28,hr⟩:=bs hr
                apply TO.cal (wn T) rfl goFn13 (Spec.ov (base_Within_spec h28) (by decide)) rfl rfl rfl
                repeat exact sd T
                refine wa_ T (g:=?_)
                apply TO.pop1 (wn T) (pop_not rfl)
                repeat exact sd T
                refine wa_ T (g:=?_)
                rcases ifs hr with ⟨h29,hr⟩|⟨h29,hr⟩
                · have T:=an h29 T
                  refine wa_ T (g:=?_)
                  rcases ifs hr with ⟨h30,hr⟩|⟨h30,hr⟩
                  · have T:=an h30 T
                    refine wa_ T (g:=?_)
                    obtain ⟨v23,h31,hr⟩:=bs hr
                    apply TO.cal (wn T) rfl goFn20 (Spec.ov (ref10_LevelsAt_spec h31) (by decide)) rfl rfl rfl
                    repeat exact sd T
                    refine wa_ T (g:=?_)
                    obtain ⟨v24,h32,hr⟩:=bs hr
                    apply TO.lok (wn T) rfl goFn11 (Spec.ov (base_Ints_spec h32) (by decide)) (vw T) rfl rfl (by simp [clTB,cl,e_i,e_iLi_i])
                    repeat exact sd T
                    refine wa_ T (g:=?_)
                    exact lv T hr
                  · have T:=an h30 T
                    refine wa_ T (g:=?_)
                    exact lv T hr
                · have T:=an h29 T
                  refine wa_ T (g:=?_)
                  rcases ifs hr with ⟨h33,hr⟩|⟨h33,hr⟩
                  · have T:=an h33 T
                    refine wc_ T (g:=?_)
                    exact lv T hr
                  · have T:=an h33 T
                    refine wa_ T (g:=?_)
                    exact lv T hr
  · have T:=an h2 T
    refine wa_ T (g:=?_)
    exact lv T hr

end Go.Rex
