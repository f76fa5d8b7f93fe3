/- Proofs that the program's functions do what these plain functions say. -/
import Derived.Test.YtpjccpokiaefjaaGreatDoorGB
import Derived.Test.YtpjccpokiaefjaaGreatDoorS
import Derived.Test.YtpjccpokiaefjaaGreatDoorG1
import Derived.Test.YtpjccpokiaefjaaGreatDoorCZ
set_option linter.unusedSimpArgs false
set_option linter.unusedVariables false
set_option linter.defProp false
namespace Go.Rex
open Go.Proofs
open Go Go.Rex Go.RowKit
set_option maxRecDepth 100000
set_option maxHeartbeats 200000
def y59:=an @ag22 <| an @ag38 <| an @cs38 <| an @cs40 <| an @fd24_2 <| an @fd40_0 <| an @ok38 <| an @ok40 <| an @so22 <| @wi64_0a1
theorem ref07_SeatErr_spec {v1 : Int} {v2 : Int} {v3 : (List (Int × Int × Int × Int × Int))} {v4 : Int} {v5 : Int} {v6 : Int} {v7 : Int} (hr : ref07_SeatErr v1 v2 v3 v4 v5 v6 = some (v7)) : Spec (lim Tryz.prog) 90 [.agg [.v (.int .i64 v1),.v (.int .i64 v2),.list 5 (v3.map e_iiiii)],.agg [.v (.int .i64 v4),.v (.int .i64 v5),.v (.int .i64 v6)]] ⟨[.v (.int .i64 v7)],[]⟩:=by
  unfold ref07_SeatErr at hr
  have T:=an y59 <| @e_iiiii.eq_1
  apply Spec.fn Tryz.func90 rfl
  focus (simp [Tryz.f90]<;>exact rfl)
  focus
    refine wB T (g:=?_)
    obtain ⟨v8,h1,hr⟩:=bs hr
    apply TO.cal (wn T) rfl goFn22 (ref07_PlaceErr_spec h1) rfl rfl rfl
    repeat exact sd T
    refine wa_ T (g:=?_)
    rcases ifs hr with ⟨h2,hr⟩|⟨h2,hr⟩
    · have T:=an h2 T
      refine wa_ T (g:=?_)
      cases hr
      refine ⟨.inr rfl,_,(ry T),?_⟩
      exact wk_ T [] rfl .nil
    · have T:=an h2 T
      refine wa_ T (g:=?_)
      obtain ⟨v22,h11,hr⟩:=bs hr
      refine TX.loopE (step:=ref07_SeatErr_l1 v3 v4 v5 v6) (x:=0) h11 (fun v9=>⟨.junk :: .junk :: .fptr true [.v (.int .i64 v1),.v (.int .i64 v2),.list 5 (v3.map e_iiiii)] 0 :: .fptr true [.v (.int .i64 v4),.v (.int .i64 v5),.v (.int .i64 v6)] 0 :: .junk :: .junk :: .v (.int .i64 v9) :: .junk :: .junk :: .junk :: .junk :: .junk :: .junk :: .junk :: .junk :: .junk :: .junk :: .junk :: .junk :: .junk :: .junk :: .junk :: .junk :: .junk :: .junk :: .junk :: .junk :: [],[]⟩) (fun e=>match e with|(.inl _)=>(.ret,⟨.junk :: .junk :: .junk :: .junk :: .v (.int .i64 11) :: .junk :: .junk :: .junk :: .junk :: .junk :: .junk :: .junk :: .junk :: .junk :: .junk :: .junk :: .junk :: .junk :: .junk :: .junk :: .junk :: .junk :: .junk :: .junk :: .junk :: .junk :: .junk :: [],[]⟩)|(.inr _)=>(.exit 0,⟨.junk :: .junk :: .junk :: .junk :: .junk :: .junk :: .junk :: .junk :: .junk :: .junk :: .junk :: .junk :: .junk :: .junk :: .junk :: .junk :: .junk :: .junk :: .junk :: .junk :: .junk :: .junk :: .junk :: .junk :: .junk :: .junk :: .junk :: [],[]⟩)) ?_ ?_ ?_ ?_
      · rintro v9 v0 hr
        dsimp only [ref07_SeatErr_l1] at hr
        try dsimp only
        refine wC T (g:=?_)
        rcases ifs hr with ⟨h7,hr⟩|⟨h7,hr⟩
        · have T:=an h7 T
          refine wA T (g:=?_)
          obtain ⟨⟨v16,v17,v18,v19,v20⟩,h8,hr⟩:=bs hr
          try dsimp only at hr
          have T:=an (gx e_iiiii h8) T
          refine wA T (g:=?_)
          obtain ⟨v21,h9,hr⟩:=bs hr
          apply TD.cal (wn T) rfl goFn23 (ref07_Near_spec h9) rfl rfl rfl
          repeat exact sd T
          refine wa_ T (g:=?_)
          rcases ifs hr with ⟨h10,hr⟩|⟨h10,hr⟩
          · have T:=an h10 T
            refine wa_ T (g:=?_)
            cases hr
            refine ⟨rfl,?_⟩
            exact wk_ T [] rfl .nil
          · have T:=an h10 T
            refine wa_ T (g:=?_)
            cases hr
            refine ⟨rfl,?_⟩
            exact wk_ T [] rfl .nil
        · have T:=an h7 T
          refine wa_ T (g:=?_)
          cases hr
          refine ⟨rfl,?_⟩
          exact wk_ T [] rfl .nil
      · intro e h;rcases e with _|e<;>cases h
      · try dsimp only
        rcases v22 with _|_
        · try dsimp only at hr
          try dsimp only
          refine wa_ T (g:=?_)
          cases hr
          refine ⟨.inr rfl,_,(ry T),?_⟩
          exact wk_ T [] rfl .nil
        · try dsimp only at hr
          try dsimp only
          refine wa_ T (g:=?_)
          cases hr
          refine ⟨.inr rfl,_,(ry T),?_⟩
          exact wk_ T [] rfl .nil
      · try dsimp only
        exact wk_ T [] rfl .nil
  rfl

end Go.Rex

namespace Go.Rex
open Go.Proofs
open Go Go.Rex Go.RowKit
set_option maxRecDepth 100000
set_option maxHeartbeats 200000
def y60:=an @ag24 <| an @ag38 <| an @cs24 <| an @cs38 <| an @ok24 <| @ok38
theorem law07_arrayErr_spec {v1 : Int} {v2 : Int} {v3 : (List (Int × Int × Int × Int × Int))} {v4 : Int} {v5 : Int} {v6 : Int} {v7 : Int} (hr : law07_arrayErr v1 v2 v3 v4 v5 v6 = some (v7)) : Spec (lim Tryz.prog) 32 [.agg [.v (.int .i64 v1),.v (.int .i64 v2),.list 5 (v3.map e_iiiii)],.agg [.v (.int .i64 v4),.v (.int .i64 v5),.v (.int .i64 v6)]] ⟨[.v (.int .i64 v7)],[]⟩:=by
  unfold law07_arrayErr at hr
  have T:=an y60 <| @e_iiiii.eq_1
  apply Spec.fn Tryz.func32 rfl
  focus (simp [Tryz.f32]<;>exact rfl)
  focus
    refine wB T (g:=?_)
    obtain ⟨⟨v8,v9⟩,h1,hr⟩:=bs hr
    try dsimp only at hr
    apply TO.cal (wn T) rfl goFn16 (ref07_CheckArray_spec h1) rfl rfl rfl
    repeat exact sd T
    refine wa_ T (g:=?_)
    rcases ifs hr with ⟨h2,hr⟩|⟨h2,hr⟩
    · have T:=an h2 T
      refine wa_ T (g:=?_)
      cases hr
      refine ⟨.inr rfl,_,(ry T),?_⟩
      exact wk_ T [] rfl .nil
    · have T:=an h2 T
      refine wA T (g:=?_)
      obtain ⟨v10,h3,hr⟩:=bs hr
      apply TO.cal (wn T) rfl goFn90 (ref07_SeatErr_spec h3) rfl rfl rfl
      repeat exact sd T
      refine wa_ T (g:=?_)
      cases hr
      refine ⟨.inr rfl,_,(ry T),?_⟩
      exact wk_ T [] rfl .nil
  rfl

end Go.Rex

namespace Go.Rex
open Go.Proofs
open Go Go.Rex Go.RowKit
set_option maxRecDepth 100000
set_option maxHeartbeats 200000
def y61:=@ex91
theorem base_SameBits_spec {v1 : Nat} {v2 : Nat} {v3 : Nat} {v4 : Nat} {v5 : Bool} (hr : base_SameBits v1 v2 v3 v4 = some (v5)) : Spec (lim Tryz.prog) 33 [.v (.complex .f64 v1 v2),.v (.complex .f64 v3 v4)] ⟨[.v (.bool v5)],[]⟩:=by
  unfold base_SameBits at hr
  have T:=y61
  apply Spec.fn Tryz.func33 rfl
  focus (simp [Tryz.f33]<;>exact rfl)
  focus
    refine wa_ T (g:=?_)
    apply TO.pop1 (wn T) (pop_real rfl)
    repeat exact sd T
    refine wa_ T (g:=?_)
    apply TO.ex (wn T) rfl ex91 (by simp only [z1,z3,zl];exact rfl) rfl rfl (rfl) rfl rfl rfl
    repeat exact sd T
    refine wa_ T (g:=?_)
    apply TO.pop1 (wn T) (pop_real rfl)
    repeat exact sd T
    refine wa_ T (g:=?_)
    apply TO.ex (wn T) rfl ex91 (by simp only [z1,z3,zl];exact rfl) rfl rfl (rfl) rfl rfl rfl
    repeat exact sd T
    refine wa_ T (g:=?_)
    rcases ifs hr with ⟨h1,hr⟩|⟨h1,hr⟩
    · have T:=an h1 T
      refine wa_ T (g:=?_)
      apply TO.pop1 (wn T) (pop_imag rfl)
      repeat exact sd T
      refine wa_ T (g:=?_)
      apply TO.ex (wn T) rfl ex91 (by simp only [z1,z3,zl];exact rfl) rfl rfl (rfl) rfl rfl rfl
      repeat exact sd T
      refine wa_ T (g:=?_)
      apply TO.pop1 (wn T) (pop_imag rfl)
      repeat exact sd T
      refine wa_ T (g:=?_)
      apply TO.ex (wn T) rfl ex91 (by simp only [z1,z3,zl];exact rfl) rfl rfl (rfl) rfl rfl rfl
      repeat exact sd T
      refine wa_ T (g:=?_)
      cases hr
      refine ⟨.inr rfl,_,(ry T),?_⟩
      exact wk_ T [] rfl .nil
    · have T:=an h1 T
      refine wa_ T (g:=?_)
      cases hr
      refine ⟨.inr rfl,_,(ry T),?_⟩
      exact wk_ T [] rfl .nil
  rfl

end Go.Rex

namespace Go.Rex
open Go.Proofs
open Go Go.Rex Go.RowKit
set_option maxRecDepth 100000
set_option maxHeartbeats 200000
def y62:=an @wi64_0a1073741824 <| @wi64_1073741824m1073741824
theorem base_Root_spec {v1 : Int} {v2 : Int} (hr : base_Root v1 = some (v2)) : Spec (lim Tryz.prog) 94 [.v (.int .i64 v1)] ⟨[.v (.int .i64 v2)],[]⟩:=by
  unfold base_Root at hr
  have T:=y62
  apply Spec.fn Tryz.func94 rfl
  focus (simp [Tryz.f94]<;>exact rfl)
  focus
    refine wa_ T (g:=?_)
    obtain ⟨v6,h5,hr⟩:=bs hr
    refine TX.loopE (step:=base_Root_l1 v1) (x:=(0,1073741824)) h5 (fun (v3,v4)=>⟨.v (.int .i64 v1) :: .junk :: .junk :: .v (.int .i64 v3) :: .v (.int .i64 v4) :: .junk :: .junk :: .junk :: .junk :: .junk :: .junk :: .junk :: .junk :: .junk :: .junk :: .junk :: .junk :: .junk :: .junk :: .junk :: .junk :: .junk :: [],[]⟩) (fun v5=>(.exit 0,⟨.junk :: .junk :: .junk :: .v (.int .i64 v5) :: .junk :: .junk :: .junk :: .junk :: .junk :: .junk :: .junk :: .junk :: .junk :: .junk :: .junk :: .junk :: .junk :: .junk :: .junk :: .junk :: .junk :: .junk :: [],[]⟩)) ?_ ?_ ?_ ?_
    · rintro ⟨v3,v4⟩ v0 hr
      dsimp only [base_Root_l1] at hr
      try dsimp only
      refine wa_ T (g:=?_)
      rcases ifs hr with ⟨h3,hr⟩|⟨h3,hr⟩
      · have T:=an h3 T
        refine wa_ T (g:=?_)
        rcases ifs hr with ⟨h4,hr⟩|⟨h4,hr⟩
        · have T:=an h4 T
          refine wa_ T (g:=?_)
          cases hr
          refine ⟨rfl,?_⟩
          exact wk_ T [] rfl .nil
        · have T:=an h4 T
          refine wa_ T (g:=?_)
          cases hr
          refine ⟨rfl,?_⟩
          exact wk_ T [] rfl .nil
      · have T:=an h3 T
        refine wa_ T (g:=?_)
        cases hr
        refine ⟨rfl,?_⟩
        exact wk_ T [] rfl .nil
    · intro e h;cases h
    · try dsimp only
      refine wa_ T (g:=?_)
      cases hr
      refine ⟨.inr rfl,_,(ry T),?_⟩
      exact wr [] rfl .nil
    · try dsimp only
      exact wr [] rfl .nil
  rfl

end Go.Rex

namespace Go.Rex
open Go.Proofs
open Go Go.Rex Go.RowKit
set_option maxRecDepth 100000
set_option maxHeartbeats 200000
theorem base_RootUp_spec {v1 : Int} {v2 : Int} (hr : base_RootUp v1 = some (v2)) : Spec (lim Tryz.prog) 95 [.v (.int .i64 v1)] ⟨[.v (.int .i64 v2)],[]⟩:=by
  unfold base_RootUp at hr
  have T:=trivial
  apply Spec.fn Tryz.func95 rfl
  focus (simp [Tryz.f95]<;>exact rfl)
  focus
    refine wa_ T (g:=?_)
    obtain ⟨v3,h1,hr⟩:=bs hr
    apply TO.cal (wn T) rfl goFn94 (base_Root_spec h1) rfl rfl rfl
    repeat exact sd T
    refine wa_ T (g:=?_)
    rcases ifs hr with ⟨h2,hr⟩|⟨h2,hr⟩
    · have T:=an h2 T
      refine wa_ T (g:=?_)
      cases hr
      refine ⟨.inr rfl,_,(ry T),?_⟩
      exact wk_ T [] rfl .nil
    · have T:=an h2 T
      refine wa_ T (g:=?_)
      cases hr
      refine ⟨.inr rfl,_,(ry T),?_⟩
      exact wk_ T [] rfl .nil
  rfl

end Go.Rex

namespace Go.Rex
open Go.Proofs
open Go Go.Rex Go.RowKit
set_option maxRecDepth 100000
set_option maxHeartbeats 200000
def y63:=an @ag38 <| an @ag45 <| an @cs38 <| an @cs45 <| an @ok38 <| an @ok45 <| an @st45 <| @zc45
theorem ref07_milli_spec {v1 : Int} {v2 : Int} {v3 : Int} {v4 : Int} {v5 : Int} {v6 : Int} {v7 : Int} {v8 : Int} (hr : ref07_milli v1 v2 v3 v4 v5 v6 = some (v7,v8)) : Spec (lim Tryz.prog) 80 [.agg [.v (.int .i64 v1),.v (.int .i64 v2),.v (.int .i64 v3)],.agg [.v (.int .i64 v4),.v (.int .i64 v5),.v (.int .i64 v6)]] ⟨[.agg [.v (.int .i64 v7),.v (.int .i64 v8)]],[]⟩:=by
  unfold ref07_milli at hr
  have T:=y63
  apply Spec.fn Tryz.func80 rfl
  focus (simp [Tryz.f80]<;>exact rfl)
  focus
    refine wB T (g:=?_)
    obtain ⟨v9,h1,hr⟩:=bs hr
    apply TO.cal (wn T) rfl goFn79 (ref07_square_spec h1) rfl rfl rfl
    repeat exact sd T
    refine wa_ T (g:=?_)
    obtain ⟨v10,h2,hr⟩:=bs hr
    apply TO.cal (wn T) rfl goFn94 (base_Root_spec h2) rfl rfl rfl
    repeat exact sd T
    refine wa_ T (g:=?_)
    obtain ⟨v11,h3,hr⟩:=bs hr
    apply TO.cal (wn T) rfl goFn95 (base_RootUp_spec h3) rfl rfl rfl
    repeat exact sd T
    refine wa_ T (g:=?_)
    cases hr
    refine ⟨.inr rfl,_,(ry T),?_⟩
    exact wr [] rfl .nil
  rfl

end Go.Rex

namespace Go.Rex
open Go.Proofs
open Go Go.Rex Go.RowKit
set_option maxRecDepth 100000
set_option maxHeartbeats 200000
theorem base_Floor_spec {v1 : Int} {v2 : Int} {v3 : Int} (hr : base_Floor v1 v2 = some (v3)) : Spec (lim Tryz.prog) 81 [.v (.int .i64 v1),.v (.int .i64 v2)] ⟨[.v (.int .i64 v3)],[]⟩:=by
  unfold base_Floor at hr
  have T:=trivial
  apply Spec.fn Tryz.func81 rfl
  focus (simp [Tryz.f81]<;>exact rfl)
  focus
    refine wa_ T (g:=?_)
    by_cases h1 : v2 = 0
    · rw [if_pos h1] at hr
      cases hr
    · rw [if_neg h1] at hr
      have T:=an h1 T
      refine wa_ T (g:=?_)
      rcases ifs hr with ⟨h2,hr⟩|⟨h2,hr⟩
      · have T:=an h2 T
        refine wa_ T (g:=?_)
        cases hr
        refine ⟨.inr rfl,_,(ry T),?_⟩
        exact wk_ T [] rfl .nil
      · have T:=an h2 T
        refine wa_ T (g:=?_)
        cases hr
        refine ⟨.inr rfl,_,(ry T),?_⟩
        exact wk_ T [] rfl .nil
  rfl

end Go.Rex

namespace Go.Rex
open Go.Proofs
open Go Go.Rex Go.RowKit
set_option maxRecDepth 100000
set_option maxHeartbeats 200000
theorem base_Ceil_spec {v1 : Int} {v2 : Int} {v3 : Int} (hr : base_Ceil v1 v2 = some (v3)) : Spec (lim Tryz.prog) 82 [.v (.int .i64 v1),.v (.int .i64 v2)] ⟨[.v (.int .i64 v3)],[]⟩:=by
  unfold base_Ceil at hr
  have T:=trivial
  apply Spec.fn Tryz.func82 rfl
  focus (simp [Tryz.f82]<;>exact rfl)
  focus
    refine wa_ T (g:=?_)
    apply TO.pop1 (wn T) (pop_neg rfl)
    repeat exact sd T
    refine wa_ T (g:=?_)
    obtain ⟨v4,h1,hr⟩:=bs hr
    apply TO.cal (wn T) rfl goFn81 (base_Floor_spec h1) rfl rfl rfl
    repeat exact sd T
    refine wa_ T (g:=?_)
    apply TO.pop1 (wn T) (pop_neg rfl)
    repeat exact sd T
    refine wa_ T (g:=?_)
    cases hr
    refine ⟨.inr rfl,_,(ry T),?_⟩
    exact wr [] rfl .nil
  rfl

end Go.Rex

namespace Go.Rex
open Go.Proofs
open Go Go.Rex Go.RowKit
set_option maxRecDepth 100000
set_option maxHeartbeats 200000
def y64:=an @ag3 <| an @ag38 <| an @ag45 <| an @cs38 <| an @cs45 <| an @fd45_0 <| an @fd45_1 <| an @ok38 <| an @ok45 <| an @st45 <| @zc45
theorem ref07_Strength_spec {v1 : Int} {v2 : Int} {v3 : Int} {v4 : Int} {v5 : Int} {v6 : Int} {v7 : Int} {v8 : Int} (hr : ref07_Strength v1 v2 v3 v4 v5 v6 = some (v7,v8)) : Spec (lim Tryz.prog) 24 [.agg [.v (.int .i64 v1),.v (.int .i64 v2),.v (.int .i64 v3)],.agg [.v (.int .i64 v4),.v (.int .i64 v5),.v (.int .i64 v6)]] ⟨[.agg [.v (.int .i64 v7),.v (.int .i64 v8)]],[]⟩:=by
  unfold ref07_Strength at hr
  have T:=y64
  apply Spec.fn Tryz.func24 rfl
  focus (simp [Tryz.f24]<;>exact rfl)
  focus
    refine wB T (g:=?_)
    obtain ⟨⟨v9,v10⟩,h1,hr⟩:=bs hr
    try dsimp only at hr
    apply TO.cal (wn T) rfl goFn80 (ref07_milli_spec h1) rfl rfl rfl
    repeat exact sd T
    refine wA T (g:=?_)
    obtain ⟨v11,h2,hr⟩:=bs hr
    apply TD.cal (wn T) rfl goFn81 (base_Floor_spec h2) rfl rfl rfl
    repeat exact sd T
    refine wA T (g:=?_)
    obtain ⟨v12,h3,hr⟩:=bs hr
    apply TD.cal (wn T) rfl goFn82 (base_Ceil_spec h3) rfl rfl rfl
    repeat exact sd T
    refine wa_ T (g:=?_)
    cases hr
    refine ⟨.inr rfl,_,(ry T),?_⟩
    exact wr [] rfl .nil
  rfl

end Go.Rex

namespace Go.Rex
open Go.Proofs
open Go Go.Rex Go.RowKit
set_option maxRecDepth 100000
set_option maxHeartbeats 200000
def y65:=an @ag3 <| an @ag38 <| an @ag45 <| an @cs38 <| an @cs45 <| an @fd43_0 <| an @fd43_1 <| an @fd45_0 <| an @fd45_1 <| an @ok38 <| an @ok45 <| an @st45 <| @zc45
theorem ref07_NumbersOf_spec {v1 : Int} {v2 : Int} {v3 : Int} {v4 : Int} {v5 : Int} {v6 : Int} {v7 : Int} {v8 : Int} {v9 : Int} {v10 : Int} (hr : ref07_NumbersOf v1 v2 v3 v4 v5 v6 v7 v8 = some (v9,v10)) : Spec (lim Tryz.prog) 27 [.agg [.v (.int .i64 v1),.v (.int .i64 v2),.v (.int .i64 v3)],.agg [.v (.int .i64 v4),.v (.int .i64 v5),.v (.int .i64 v6)],.agg [.v (.int .i64 v7),.v (.int .i64 v8)]] ⟨[.agg [.v (.int .i64 v9),.v (.int .i64 v10)]],[]⟩:=by
  unfold ref07_NumbersOf at hr
  have T:=y65
  apply Spec.fn Tryz.func27 rfl
  focus (simp [Tryz.f27]<;>exact rfl)
  focus
    refine wB T (g:=?_)
    obtain ⟨⟨v11,v12⟩,h1,hr⟩:=bs hr
    try dsimp only at hr
    apply TO.cal (wn T) rfl goFn80 (ref07_milli_spec h1) rfl rfl rfl
    repeat exact sd T
    refine wA T (g:=?_)
    obtain ⟨v13,h2,hr⟩:=bs hr
    apply TD.cal (wn T) rfl goFn81 (base_Floor_spec h2) rfl rfl rfl
    repeat exact sd T
    refine wa_ T (g:=?_)
    obtain ⟨v14,h3,hr⟩:=bs hr
    apply TD.cal (wn T) rfl goFn81 (base_Floor_spec h3) rfl rfl rfl
    repeat exact sd T
    refine wA T (g:=?_)
    obtain ⟨v15,h4,hr⟩:=bs hr
    apply TD.cal (wn T) rfl goFn82 (base_Ceil_spec h4) rfl rfl rfl
    repeat exact sd T
    refine wa_ T (g:=?_)
    obtain ⟨v16,h5,hr⟩:=bs hr
    apply TD.cal (wn T) rfl goFn81 (base_Floor_spec h5) rfl rfl rfl
    repeat exact sd T
    refine wa_ T (g:=?_)
    cases hr
    refine ⟨.inr rfl,_,(ry T),?_⟩
    exact wr [] rfl .nil
  rfl

end Go.Rex

namespace Go.Rex
open Go.Proofs
open Go Go.Rex Go.RowKit
set_option maxRecDepth 100000
set_option maxHeartbeats 200000
theorem base_Mod_spec {v1 : Int} {v2 : Int} {v3 : Int} (hr : base_Mod v1 v2 = some (v3)) : Spec (lim Tryz.prog) 40 [.v (.int .i64 v1),.v (.int .i64 v2)] ⟨[.v (.int .i64 v3)],[]⟩:=by
  unfold base_Mod at hr
  have T:=trivial
  apply Spec.fn Tryz.func40 rfl
  focus (simp [Tryz.f40]<;>exact rfl)
  focus
    refine wa_ T (g:=?_)
    by_cases h1 : v2 = 0
    · rw [if_pos h1] at hr
      cases hr
    · rw [if_neg h1] at hr
      have T:=an h1 T
      refine wa_ T (g:=?_)
      rcases ifs hr with ⟨h2,hr⟩|⟨h2,hr⟩
      · have T:=an h2 T
        refine wa_ T (g:=?_)
        cases hr
        refine ⟨.inr rfl,_,(ry T),?_⟩
        exact wk_ T [] rfl .nil
      · have T:=an h2 T
        refine wa_ T (g:=?_)
        cases hr
        refine ⟨.inr rfl,_,(ry T),?_⟩
        exact wk_ T [] rfl .nil
  rfl

end Go.Rex

namespace Go.Rex
open Go.Proofs
open Go Go.Rex Go.RowKit
set_option maxRecDepth 100000
set_option maxHeartbeats 200000
theorem ref07_turned_spec {v1 : Int} {v2 : Int} {v3 : Int} {v4 : Int} (hr : ref07_turned v1 v2 = some (v3,v4)) : Spec (lim Tryz.prog) 92 [.v (.int .i64 v1),.v (.int .i64 v2)] ⟨[.tuple [.v (.int .i64 v3),.v (.int .i64 v4)]],[]⟩:=by
  unfold ref07_turned at hr
  have T:=trivial
  apply Spec.fn Tryz.func92 rfl
  focus (simp [Tryz.f92]<;>exact rfl)
  focus
    refine wa_ T (g:=?_)
    obtain ⟨v5,h1,hr⟩:=bs hr
    apply TO.cal (wn T) rfl goFn40 (base_Mod_spec h1) rfl rfl rfl
    repeat exact sd T
    refine wa_ T (g:=?_)
    rcases ifs hr with ⟨h2,hr⟩|⟨h2,hr⟩
    · have T:=an h2 T
      refine wa_ T (g:=?_)
      cases hr
      refine ⟨.inr rfl,_,(ry T),?_⟩
      exact wk_ T [] rfl .nil
    · have T:=an h2 T
      refine wa_ T (g:=?_)
      rcases ifs hr with ⟨h3,hr⟩|⟨h3,hr⟩
      · have T:=an h3 T
        refine wa_ T (g:=?_)
        apply TO.pop1 (wn T) (pop_neg rfl)
        repeat exact sd T
        refine wa_ T (g:=?_)
        cases hr
        refine ⟨.inr rfl,_,(ry T),?_⟩
        exact wk_ T [] rfl .nil
      · have T:=an h3 T
        refine wa_ T (g:=?_)
        rcases ifs hr with ⟨h4,hr⟩|⟨h4,hr⟩
        · have T:=an h4 T
          refine wa_ T (g:=?_)
          apply TO.pop1 (wn T) (pop_neg rfl)
          repeat exact sd T
          refine wa_ T (g:=?_)
          cases hr
          refine ⟨.inr rfl,_,(ry T),?_⟩
          exact wk_ T [] rfl .nil
        · have T:=an h4 T
          refine wa_ T (g:=?_)
          cases hr
          refine ⟨.inr rfl,_,(ry T),?_⟩
          exact wk_ T [] rfl .nil
  rfl

end Go.Rex

namespace Go.Rex
open Go.Proofs
open Go Go.Rex Go.RowKit
set_option maxRecDepth 100000
set_option maxHeartbeats 200000
def y66:=an @ag22 <| an @ag24 <| an @ag3 <| an @ag38 <| an @ag40 <| an @cs24 <| an @cs38 <| an @cs40 <| an @fd24_2 <| an @fd40_0 <| an @fd40_1 <| an @fd40_2 <| an @fd45_0 <| an @ok24 <| an @ok38 <| an @ok40 <| an @so22 <| an @zc40 <| @wi64_0a1
theorem ref07_PressureAt_spec {v1 : Int} {v2 : Int} {v3 : (List (Int × Int × Int × Int × Int))} {v4 : Int} {v5 : Int} {v6 : Int} {v7 : Int} {v8 : Int} (hr : ref07_PressureAt v1 v2 v3 v4 v5 v6 = some (v7,v8)) : Spec (lim Tryz.prog) 34 [.agg [.v (.int .i64 v1),.v (.int .i64 v2),.list 5 (v3.map e_iiiii)],.agg [.v (.int .i64 v4),.v (.int .i64 v5),.v (.int .i64 v6)]] ⟨[.tuple [.v (.int .i64 v7),.v (.int .i64 v8)]],[]⟩:=by
  unfold ref07_PressureAt at hr
  have T:=an y66 <| @e_iiiii.eq_1
  apply Spec.fn Tryz.func34 rfl
  focus (simp [Tryz.f34]<;>exact rfl)
  focus
    refine wb_ T (g:=?_)
    obtain ⟨⟨v40,v41⟩,h13,hr⟩:=bs hr
    try dsimp only at hr
    refine TX.loopE (step:=ref07_PressureAt_l1 v1 v2 v3 v4 v5 v6) (x:=(0,0,0)) h13 (fun (v9,v10,v11)=>⟨.junk :: .junk :: .fptr true [.v (.int .i64 v1),.v (.int .i64 v2),.list 5 (v3.map e_iiiii)] 0 :: .fptr true [.v (.int .i64 v4),.v (.int .i64 v5),.v (.int .i64 v6)] 0 :: .junk :: .junk :: .v (.int .i64 v9) :: .v (.int .i64 v10) :: .v (.int .i64 v11) :: .junk :: .junk :: .junk :: .junk :: .junk :: .junk :: .junk :: .junk :: .junk :: .junk :: .junk :: .junk :: .junk :: .junk :: .junk :: .junk :: .junk :: .junk :: .junk :: .junk :: .junk :: .junk :: .junk :: .junk :: .junk :: .junk :: .junk :: .junk :: .junk :: .junk :: .junk :: .junk :: .junk :: .junk :: .junk :: .junk :: .junk :: .junk :: .junk :: .junk :: .junk :: .junk :: .junk :: .junk :: .junk :: [],[]⟩) (fun (v25,v26)=>(.exit 0,⟨.junk :: .junk :: .junk :: .junk :: .junk :: .junk :: .v (.int .i64 v25) :: .v (.int .i64 v26) :: .junk :: .junk :: .junk :: .junk :: .junk :: .junk :: .junk :: .junk :: .junk :: .junk :: .junk :: .junk :: .junk :: .junk :: .junk :: .junk :: .junk :: .junk :: .junk :: .junk :: .junk :: .junk :: .junk :: .junk :: .junk :: .junk :: .junk :: .junk :: .junk :: .junk :: .junk :: .junk :: .junk :: .junk :: .junk :: .junk :: .junk :: .junk :: .junk :: .junk :: .junk :: .junk :: .junk :: .junk :: .junk :: .junk :: [],[]⟩)) ?_ ?_ ?_ ?_
    · rintro ⟨v9,v10,v11⟩ v0 hr
      dsimp only [ref07_PressureAt_l1] at hr
      try dsimp only
      refine wC T (g:=?_)
      rcases ifs hr with ⟨h7,hr⟩|⟨h7,hr⟩
      · have T:=an h7 T
        refine wA T (g:=?_)
        obtain ⟨⟨v27,v28,v29,v30,v31⟩,h8,hr⟩:=bs hr
        try dsimp only at hr
        have T:=an (gx e_iiiii h8) T
        refine wA T (g:=?_)
        obtain ⟨⟨v32,v33⟩,h9,hr⟩:=bs hr
        try dsimp only at hr
        apply TD.cal (wn T) rfl goFn24 (ref07_Strength_spec h9) rfl rfl rfl
        repeat exact sd T
        refine wA T (g:=?_)
        obtain ⟨⟨v34,v35⟩,h10,hr⟩:=bs hr
        try dsimp only at hr
        apply TD.cal (wn T) rfl goFn72 (ref07_Sound_spec h10) rfl rfl rfl
        repeat exact sd T
        refine wa_ T (g:=?_)
        obtain ⟨⟨v36,v37⟩,h11,hr⟩:=bs hr
        try dsimp only at hr
        apply TD.cal (wn T) rfl goFn27 (ref07_NumbersOf_spec h11) rfl rfl rfl
        repeat exact sd T
        refine wA T (g:=?_)
        obtain ⟨⟨v38,v39⟩,h12,hr⟩:=bs hr
        try dsimp only at hr
        apply TD.cal (wn T) rfl goFn92 (ref07_turned_spec h12) rfl rfl rfl
        repeat exact sd T
        refine wa_ T (g:=?_)
        cases hr
        refine ⟨rfl,?_⟩
        exact wk_ T [] rfl .nil
      · have T:=an h7 T
        refine wa_ T (g:=?_)
        cases hr
        refine ⟨rfl,?_⟩
        exact wk_ T [] rfl .nil
    · intro e h;cases h
    · try dsimp only
      refine wa_ T (g:=?_)
      cases hr
      refine ⟨.inr rfl,_,(ry T),?_⟩
      exact wr [] rfl .nil
    · try dsimp only
      exact wr [] rfl .nil
  rfl

end Go.Rex

namespace Go.Rex
open Go.Proofs
open Go Go.Rex Go.RowKit
set_option maxRecDepth 100000
set_option maxHeartbeats 200000
def y67:=an @un145 <| @un3
theorem base_Num_spec {v1 : Int} {v2 : Int} {v3 : Nat} {v4 : Nat} (hr : base_Num v1 v2 = some (v3,v4)) : Spec (lim Tryz.prog) 35 [.v (.int .i64 v1),.v (.int .i64 v2)] ⟨[.v (.complex .f64 v3 v4)],[]⟩:=by
  unfold base_Num at hr
  have T:=y67
  apply Spec.fn Tryz.func35 rfl
  focus (simp [Tryz.f35]<;>exact rfl)
  focus
    refine wa_ T (g:=?_)
    apply TO.pop1 (wn T) (cvt_int_float un3 un145 rfl)
    repeat exact sd T
    refine wa_ T (g:=?_)
    apply TO.pop1 (wn T) (cvt_int_float un3 un145 rfl)
    repeat exact sd T
    refine wa_ T (g:=?_)
    apply TO.pop1 (wn T) (pop_complex64 rfl rfl)
    repeat exact sd T
    refine wa_ T (g:=?_)
    cases hr
    refine ⟨.inr rfl,_,(ry T),?_⟩
    exact wr [] rfl .nil
  rfl

end Go.Rex

namespace Go.Rex
open Go.Proofs
open Go Go.Rex Go.RowKit
set_option maxRecDepth 100000
set_option maxHeartbeats 1000000
def y68:=an @ag22 <| an @ag24 <| an @ag3 <| an @ag38 <| an @ag40 <| an @ag45 <| an @ag58 <| an @ar58 <| an @cs24 <| an @cs38 <| an @cs40 <| an @cs45 <| an @cs58 <| an @fd24_2 <| an @fd40_0 <| an @fd40_1 <| an @fd40_2 <| an @fd45_0 <| an @fd45_1 <| an @ok24 <| an @ok38 <| an @ok40 <| an @ok45 <| an @ok58 <| an @so22 <| an @so58 <| an @st45 <| an @st58 <| an @zc40 <| an @zc45 <| an @zc58 <| an @wi64_0a1 <| @wi64_1a1
theorem ref07_EndsAt_spec {v1 : Int} {v2 : Int} {v3 : (List (Int × Int × Int × Int × Int))} {v4 : Int} {v5 : Int} {v6 : Int} {v7 : Int} {v8 : Int} {v9 : Int} {v10 : Int} (hr : ref07_EndsAt v1 v2 v3 v4 v5 v6 = some (v7,v8,v9,v10)) : Spec (lim Tryz.prog) 36 [.agg [.v (.int .i64 v1),.v (.int .i64 v2),.list 5 (v3.map e_iiiii)],.agg [.v (.int .i64 v4),.v (.int .i64 v5),.v (.int .i64 v6)]] ⟨[.agg [.v (.int .i64 v7),.v (.int .i64 v8),.v (.int .i64 v9),.v (.int .i64 v10)]],[]⟩:=by
  unfold ref07_EndsAt at hr
  have T:=an y68 <| @e_iiiii.eq_1
  apply Spec.fn Tryz.func36 rfl
  focus (simp [Tryz.f36]<;>exact rfl)
  focus
    refine wb_ T (g:=?_)
    obtain ⟨⟨v152,v153,v154,v155⟩,h87,hr⟩:=bs hr
    try dsimp only at hr
    refine TX.loopE (step:=ref07_EndsAt_l1 v1 v2 v3 v4 v5 v6) (x:=(0,0,0,0,0)) h87 (fun (v11,v12,v13,v14,v15)=>⟨.junk :: .junk :: .fptr true [.v (.int .i64 v1),.v (.int .i64 v2),.list 5 (v3.map e_iiiii)] 0 :: .fptr true [.v (.int .i64 v4),.v (.int .i64 v5),.v (.int .i64 v6)] 0 :: .lptr 0 0 0 :: .lptr 1 0 0 :: .v (.int .i64 v15) :: .junk :: .junk :: .junk :: .junk :: .junk :: .junk :: .junk :: .junk :: .junk :: .junk :: .junk :: .junk :: .junk :: .junk :: .junk :: .junk :: .junk :: .junk :: .junk :: .junk :: .junk :: .junk :: .junk :: .junk :: .junk :: .junk :: .junk :: .junk :: .junk :: .junk :: .junk :: .junk :: .junk :: .junk :: .junk :: .junk :: .junk :: .junk :: .junk :: .junk :: .junk :: .junk :: .junk :: .junk :: .junk :: .junk :: .junk :: .junk :: .junk :: .junk :: .junk :: .junk :: .junk :: .junk :: .junk :: .junk :: .junk :: .junk :: .junk :: .junk :: .junk :: .junk :: .junk :: .junk :: .junk :: .junk :: .junk :: .junk :: .junk :: .junk :: .junk :: .junk :: .junk :: .junk :: .junk :: .junk :: .junk :: .junk :: .junk :: .junk :: .junk :: .junk :: .junk :: .junk :: .junk :: .junk :: .junk :: .junk :: .junk :: .junk :: .junk :: .junk :: .junk :: .junk :: .junk :: .junk :: .junk :: .junk :: .junk :: .junk :: .junk :: .junk :: .junk :: .junk :: .junk :: .junk :: .junk :: .junk :: .junk :: .junk :: .junk :: .junk :: .junk :: .junk :: .junk :: .junk :: .junk :: .junk :: .junk :: .junk :: .junk :: .junk :: .junk :: .junk :: .junk :: .junk :: .junk :: .junk :: .junk :: .junk :: [],[.var [.v (.int .i64 0),.v (.int .i64 0),.v (.int .i64 0),.v (.int .i64 0)],.var [.v (.int .i64 v11),.v (.int .i64 v12),.v (.int .i64 v13),.v (.int .i64 v14)]]⟩) (fun (v82,v83,v84,v85)=>(.exit 0,⟨.junk :: .junk :: .junk :: .junk :: .lptr 0 0 0 :: .lptr 1 0 0 :: .junk :: .junk :: .junk :: .junk :: .junk :: .junk :: .junk :: .junk :: .junk :: .junk :: .junk :: .junk :: .junk :: .junk :: .junk :: .junk :: .junk :: .junk :: .junk :: .junk :: .junk :: .junk :: .junk :: .junk :: .junk :: .junk :: .junk :: .junk :: .junk :: .junk :: .junk :: .junk :: .junk :: .junk :: .junk :: .junk :: .junk :: .junk :: .junk :: .junk :: .junk :: .junk :: .junk :: .junk :: .junk :: .junk :: .junk :: .junk :: .junk :: .junk :: .junk :: .junk :: .junk :: .junk :: .junk :: .junk :: .junk :: .junk :: .junk :: .junk :: .junk :: .junk :: .junk :: .junk :: .junk :: .junk :: .junk :: .junk :: .junk :: .junk :: .junk :: .junk :: .junk :: .junk :: .junk :: .junk :: .junk :: .junk :: .junk :: .junk :: .junk :: .junk :: .junk :: .junk :: .junk :: .junk :: .junk :: .junk :: .junk :: .junk :: .junk :: .junk :: .junk :: .junk :: .junk :: .junk :: .junk :: .junk :: .junk :: .junk :: .junk :: .junk :: .junk :: .junk :: .junk :: .junk :: .junk :: .junk :: .junk :: .junk :: .junk :: .junk :: .junk :: .junk :: .junk :: .junk :: .junk :: .junk :: .junk :: .junk :: .junk :: .junk :: .junk :: .junk :: .junk :: .junk :: .junk :: .junk :: .junk :: .junk :: .junk :: [],[.var [.v (.int .i64 0),.v (.int .i64 0),.v (.int .i64 0),.v (.int .i64 0)],.var [.v (.int .i64 v82),.v (.int .i64 v83),.v (.int .i64 v84),.v (.int .i64 v85)]]⟩)) ?_ ?_ ?_ ?_
    · rintro ⟨v11,v12,v13,v14,v15⟩ v0 hr
      dsimp only [ref07_EndsAt_l1] at hr
      try dsimp only
      refine wC T (g:=?_)
      rcases ifs hr with ⟨h44,hr⟩|⟨h44,hr⟩
      · have T:=an h44 T
        refine wA T (g:=?_)
        obtain ⟨⟨v86,v87,v88,v89,v90⟩,h45,hr⟩:=bs hr
        try dsimp only at hr
        have h45m:=tidx_map (f:=e_iiiii) h45
        have h45l:=getI_lt h45
        try simp only [List.length_set] at h45l
        have h45a:=getI_at h45
        have T:=an h45m T
        have T:=an h45l T
        have T:=an h45a T
        refine wA T (g:=?_)
        obtain ⟨⟨v91,v92⟩,h46,hr⟩:=bs hr
        try dsimp only at hr
        apply TD.cal (wn T) rfl goFn24 (ref07_Strength_spec h46) rfl rfl rfl
        repeat exact sd T
        refine wA T (g:=?_)
        obtain ⟨⟨v93,v94⟩,h47,hr⟩:=bs hr
        try dsimp only at hr
        apply TD.cal (wn T) rfl goFn72 (ref07_Sound_spec h47) rfl rfl rfl
        repeat exact sd T
        refine wa_ T (g:=?_)
        obtain ⟨⟨v95,v96⟩,h48,hr⟩:=bs hr
        try dsimp only at hr
        apply TD.cal (wn T) rfl goFn27 (ref07_NumbersOf_spec h48) rfl rfl rfl
        repeat exact sd T
        refine wA T (g:=?_)
        obtain ⟨⟨v148,v149,v150,v151⟩,h85,hr⟩:=bs hr
        try dsimp only at hr
        refine TX.loopE (step:=ref07_EndsAt_l2 v89 v90 v91 v92 v95 v96) (x:=(0,0,0,0,v95)) h85 (fun (v97,v98,v99,v100,v101)=>⟨.junk :: .junk :: .fptr true [.v (.int .i64 v1),.v (.int .i64 v2),.list 5 (v3.map e_iiiii)] 0 :: .fptr true [.v (.int .i64 v4),.v (.int .i64 v5),.v (.int .i64 v6)] 0 :: .lptr 0 0 0 :: .lptr 1 0 0 :: .v (.int .i64 v15) :: .lptr 2 0 0 :: .lptr 3 0 0 :: .lptr 4 0 0 :: .lptr 5 0 0 :: .v (.int .i64 v101) :: .junk :: .junk :: .junk :: .junk :: .junk :: .junk :: .junk :: .junk :: .junk :: .junk :: .junk :: .junk :: .junk :: .junk :: .junk :: .junk :: .junk :: .junk :: .junk :: .junk :: .junk :: .junk :: .junk :: .junk :: .junk :: .junk :: .junk :: .junk :: .junk :: .junk :: .junk :: .junk :: .junk :: .junk :: .junk :: .junk :: .junk :: .junk :: .junk :: .junk :: .junk :: .junk :: .junk :: .junk :: .junk :: .junk :: .junk :: .junk :: .junk :: .junk :: .junk :: .junk :: .junk :: .junk :: .junk :: .junk :: .junk :: .junk :: .junk :: .junk :: .junk :: .junk :: .junk :: .junk :: .junk :: .junk :: .junk :: .junk :: .junk :: .junk :: .junk :: .junk :: .junk :: .junk :: .junk :: .junk :: .junk :: .junk :: .junk :: .junk :: .junk :: .junk :: .junk :: .junk :: .junk :: .junk :: .junk :: .junk :: .junk :: .junk :: .junk :: .junk :: .junk :: .junk :: .junk :: .junk :: .junk :: .junk :: .junk :: .junk :: .junk :: .junk :: .junk :: .junk :: .junk :: .junk :: .junk :: .junk :: .junk :: .junk :: .junk :: .junk :: .junk :: .junk :: .junk :: .junk :: .junk :: .junk :: .junk :: .junk :: .junk :: .junk :: .junk :: .junk :: .junk :: [],[.var [.v (.int .i64 0),.v (.int .i64 0),.v (.int .i64 0),.v (.int .i64 0)],.var [.v (.int .i64 v11),.v (.int .i64 v12),.v (.int .i64 v13),.v (.int .i64 v14)],.var [.v (.int .i64 v86),.v (.int .i64 v87),.v (.int .i64 v88),.v (.int .i64 v89),.v (.int .i64 v90)],.var [.v (.int .i64 v91),.v (.int .i64 v92)],.var [.v (.int .i64 v95),.v (.int .i64 v96)],.var [.v (.int .i64 v97),.v (.int .i64 v98),.v (.int .i64 v99),.v (.int .i64 v100)]]⟩) (fun (v123,v124,v125,v126)=>(.exit 2,⟨.junk :: .junk :: .fptr true [.v (.int .i64 v1),.v (.int .i64 v2),.list 5 (v3.map e_iiiii)] 0 :: .fptr true [.v (.int .i64 v4),.v (.int .i64 v5),.v (.int .i64 v6)] 0 :: .lptr 0 0 0 :: .lptr 1 0 0 :: .v (.int .i64 v15) :: .junk :: .junk :: .junk :: .lptr 2 0 0 :: .junk :: .junk :: .junk :: .junk :: .junk :: .junk :: .junk :: .junk :: .junk :: .junk :: .junk :: .junk :: .junk :: .junk :: .junk :: .junk :: .junk :: .junk :: .junk :: .junk :: .junk :: .junk :: .junk :: .junk :: .junk :: .junk :: .junk :: .junk :: .junk :: .junk :: .junk :: .junk :: .junk :: .junk :: .junk :: .junk :: .junk :: .junk :: .junk :: .junk :: .junk :: .junk :: .junk :: .junk :: .junk :: .junk :: .junk :: .junk :: .junk :: .junk :: .junk :: .junk :: .junk :: .junk :: .junk :: .junk :: .junk :: .junk :: .junk :: .junk :: .junk :: .junk :: .junk :: .junk :: .junk :: .junk :: .junk :: .junk :: .junk :: .junk :: .junk :: .junk :: .junk :: .junk :: .junk :: .junk :: .junk :: .junk :: .junk :: .junk :: .junk :: .junk :: .junk :: .junk :: .junk :: .junk :: .junk :: .junk :: .junk :: .junk :: .junk :: .junk :: .junk :: .junk :: .junk :: .junk :: .junk :: .junk :: .junk :: .junk :: .junk :: .junk :: .junk :: .junk :: .junk :: .junk :: .junk :: .junk :: .junk :: .junk :: .junk :: .junk :: .junk :: .junk :: .junk :: .junk :: .junk :: .junk :: .junk :: .junk :: .junk :: .junk :: .junk :: .junk :: .junk :: .junk :: [],[.var [.v (.int .i64 0),.v (.int .i64 0),.v (.int .i64 0),.v (.int .i64 0)],.var [.v (.int .i64 v11),.v (.int .i64 v12),.v (.int .i64 v13),.v (.int .i64 v14)],.var [.v (.int .i64 v123),.v (.int .i64 v124),.v (.int .i64 v125),.v (.int .i64 v126)]]⟩)) ?_ ?_ ?_ ?_
        · rintro ⟨v97,v98,v99,v100,v101⟩ v0 hr
          dsimp only [ref07_EndsAt_l2] at hr
          try dsimp only
          refine wA T (g:=?_)
          rcases ifs hr with ⟨h67,hr⟩|⟨h67,hr⟩
          · have T:=an h67 T
            refine wa_ T (g:=?_)
            obtain ⟨⟨v144,v145,v146,v147⟩,h84,hr⟩:=bs hr
            try dsimp only at hr
            refine TX.loopE (step:=ref07_EndsAt_l3 v89 v90 v91 v92 v95 v101) (x:=(v97,v98,v99,v100,0)) h84 (fun (v127,v128,v129,v130,v131)=>⟨.junk :: .junk :: .fptr true [.v (.int .i64 v1),.v (.int .i64 v2),.list 5 (v3.map e_iiiii)] 0 :: .fptr true [.v (.int .i64 v4),.v (.int .i64 v5),.v (.int .i64 v6)] 0 :: .lptr 0 0 0 :: .lptr 1 0 0 :: .v (.int .i64 v15) :: .lptr 2 0 0 :: .lptr 3 0 0 :: .lptr 4 0 0 :: .lptr 5 0 0 :: .v (.int .i64 v101) :: .v (.int .i64 v131) :: .junk :: .junk :: .junk :: .junk :: .junk :: .junk :: .junk :: .junk :: .junk :: .junk :: .junk :: .junk :: .junk :: .junk :: .junk :: .junk :: .junk :: .junk :: .junk :: .junk :: .junk :: .junk :: .junk :: .junk :: .junk :: .junk :: .junk :: .junk :: .junk :: .junk :: .junk :: .junk :: .junk :: .junk :: .junk :: .junk :: .junk :: .junk :: .junk :: .junk :: .junk :: .junk :: .junk :: .junk :: .junk :: .junk :: .junk :: .junk :: .junk :: .junk :: .junk :: .junk :: .junk :: .junk :: .junk :: .junk :: .junk :: .junk :: .junk :: .junk :: .junk :: .junk :: .junk :: .junk :: .junk :: .junk :: .junk :: .junk :: .junk :: .junk :: .junk :: .junk :: .junk :: .junk :: .junk :: .junk :: .junk :: .junk :: .junk :: .junk :: .junk :: .junk :: .junk :: .junk :: .junk :: .junk :: .junk :: .junk :: .junk :: .junk :: .junk :: .junk :: .junk :: .junk :: .junk :: .junk :: .junk :: .junk :: .junk :: .junk :: .junk :: .junk :: .junk :: .junk :: .junk :: .junk :: .junk :: .junk :: .junk :: .junk :: .junk :: .junk :: .junk :: .junk :: .junk :: .junk :: .junk :: .junk :: .junk :: .junk :: .junk :: .junk :: .junk :: .junk :: [],[.var [.v (.int .i64 0),.v (.int .i64 0),.v (.int .i64 0),.v (.int .i64 0)],.var [.v (.int .i64 v11),.v (.int .i64 v12),.v (.int .i64 v13),.v (.int .i64 v14)],.var [.v (.int .i64 v86),.v (.int .i64 v87),.v (.int .i64 v88),.v (.int .i64 v89),.v (.int .i64 v90)],.var [.v (.int .i64 v91),.v (.int .i64 v92)],.var [.v (.int .i64 v95),.v (.int .i64 v96)],.var [.v (.int .i64 v127),.v (.int .i64 v128),.v (.int .i64 v129),.v (.int .i64 v130)]]⟩) (fun (v136,v137,v138,v139)=>(.exit 4,⟨.junk :: .junk :: .fptr true [.v (.int .i64 v1),.v (.int .i64 v2),.list 5 (v3.map e_iiiii)] 0 :: .fptr true [.v (.int .i64 v4),.v (.int .i64 v5),.v (.int .i64 v6)] 0 :: .lptr 0 0 0 :: .lptr 1 0 0 :: .v (.int .i64 v15) :: .lptr 2 0 0 :: .lptr 3 0 0 :: .lptr 4 0 0 :: .lptr 5 0 0 :: .v (.int .i64 v101) :: .junk :: .junk :: .junk :: .junk :: .junk :: .junk :: .junk :: .junk :: .junk :: .junk :: .junk :: .junk :: .junk :: .junk :: .junk :: .junk :: .junk :: .junk :: .junk :: .junk :: .junk :: .junk :: .junk :: .junk :: .junk :: .junk :: .junk :: .junk :: .junk :: .junk :: .junk :: .junk :: .junk :: .junk :: .junk :: .junk :: .junk :: .junk :: .junk :: .junk :: .junk :: .junk :: .junk :: .junk :: .junk :: .junk :: .junk :: .junk :: .junk :: .junk :: .junk :: .junk :: .junk :: .junk :: .junk :: .junk :: .junk :: .junk :: .junk :: .junk :: .junk :: .junk :: .junk :: .junk :: .junk :: .junk :: .junk :: .junk :: .junk :: .junk :: .junk :: .junk :: .junk :: .junk :: .junk :: .junk :: .junk :: .junk :: .junk :: .junk :: .junk :: .junk :: .junk :: .junk :: .junk :: .junk :: .junk :: .junk :: .junk :: .junk :: .junk :: .junk :: .junk :: .junk :: .junk :: .junk :: .junk :: .junk :: .junk :: .junk :: .junk :: .junk :: .junk :: .junk :: .junk :: .junk :: .junk :: .junk :: .junk :: .junk :: .junk :: .junk :: .junk :: .junk :: .junk :: .junk :: .junk :: .junk :: .junk :: .junk :: .junk :: .junk :: .junk :: .junk :: .junk :: [],[.var [.v (.int .i64 0),.v (.int .i64 0),.v (.int .i64 0),.v (.int .i64 0)],.var [.v (.int .i64 v11),.v (.int .i64 v12),.v (.int .i64 v13),.v (.int .i64 v14)],.var [.v (.int .i64 v86),.v (.int .i64 v87),.v (.int .i64 v88),.v (.int .i64 v89),.v (.int .i64 v90)],.var [.v (.int .i64 v91),.v (.int .i64 v92)],.var [.v (.int .i64 v95),.v (.int .i64 v96)],.var [.v (.int .i64 v136),.v (.int .i64 v137),.v (.int .i64 v138),.v (.int .i64 v139)]]⟩)) ?_ ?_ ?_ ?_
            · rintro ⟨v127,v128,v129,v130,v131⟩ v0 hr
              dsimp only [ref07_EndsAt_l3] at hr
              try dsimp only
              refine wa_ T (g:=?_)
              rcases ifs hr with ⟨h76,hr⟩|⟨h76,hr⟩
              · have T:=an h76 T
                refine wA T (g:=?_)
                rcases ifs hr with ⟨h77,hr⟩|⟨h77,hr⟩
                · have T:=an h77 T
                  refine wA T (g:=?_)
                  obtain ⟨⟨v140,v141⟩,h78,hr⟩:=bs hr
                  try dsimp only at hr
                  apply TO.cal (wn T) rfl goFn92 (ref07_turned_spec h78) rfl rfl rfl
                  repeat exact sd T
                  refine wA T (g:=?_)
                  rcases ifs hr with ⟨h79,hr⟩|⟨h79,hr⟩
                  · have T:=an h79 T
                    refine wa_ T (g:=?_)
                    rcases ifs hr with ⟨h80,hr⟩|⟨h80,hr⟩
                    · repeat (first|(with_reducible first|refine mv ?_|refine TO.nil ?_)|((with_reducible first|apply TO.mv|apply TO.bld|apply TO.sv|apply TO.ia|apply TO.fa|apply TO.ld);(repeat (focus (show _ = _;first|exact k1 rfl|exact k2 rfl|(simp only [zz,y68,e_iiiii,Nat.reduceAdd,Nat.reduceMul,Nat.reduceLeDiff,Nat.reduceEqDiff,tbuild,tfill,tindexAddr,z5,Int.reduceToNat,Int.reduceLE,Int.reduceLT,Int.cast_ofNat_Int,tfieldAddr,tload,rowOf,partT,List.getElem?_map,h44,h45m,h45l,h45a,h67,h76,h77,h79,h80]<;>exact rfl)|exact rfl)));(with_reducible apply TO.here))|((with_reducible apply TX.region);(focus (simp only [zl]<;>exact rfl));(focus rfl);(try dsimp only))|((with_reducible apply TX.cond_true);(focus rfl);(focus (first|rfl|(simp only [z1,zn,h44,h45m,h45l,h45a,h67,h76,h77,h79,h80];done))))|((with_reducible apply TX.cond_false);(focus rfl);(focus (first|rfl|(simp only [z1,zn,h44,h45m,h45l,h45a,h67,h76,h77,h79,h80];done))))|fail)
                      have T:=an h80 T
                      apply TO.pop1 (wn T) (pop_min rfl rfl)
                      repeat exact sd T
                      repeat (first|(with_reducible first|refine mv ?_|refine TO.nil ?_)|((with_reducible first|apply TO.ia|apply TO.fa|apply TO.ld|apply TO.mv);(repeat (focus (show _ = _;first|exact k1 rfl|exact k2 rfl|(simp only [zz,y68,e_iiiii,Nat.reduceAdd,Nat.reduceMul,Nat.reduceLeDiff,Nat.reduceEqDiff,tindexAddr,z5,Int.reduceToNat,Int.reduceLE,Int.reduceLT,Int.cast_ofNat_Int,tfieldAddr,tload,rowOf,partT,List.getElem?_map,h44,h45m,h45l,h45a,h67,h76,h77,h79,h80]<;>exact rfl)|exact rfl)));(with_reducible apply TO.here))|((with_reducible apply TX.region);(focus (simp only [zl]<;>exact rfl));(focus rfl);(try dsimp only))|fail)
                      apply TO.pop1 (wn T) (pop_max rfl rfl)
                      repeat exact sd T
                      repeat (first|(with_reducible first|refine mv ?_|refine TO.nil ?_)|((with_reducible first|apply TO.bld|apply TO.ia|apply TO.sv|apply TO.fa|apply TO.ld|apply TO.mv);(repeat (focus (show _ = _;first|exact k1 rfl|exact k2 rfl|(simp only [zz,y68,e_iiiii,Nat.reduceAdd,Nat.reduceMul,Nat.reduceLeDiff,Nat.reduceEqDiff,tbuild,tfill,tindexAddr,z5,Int.reduceToNat,Int.reduceLE,Int.reduceLT,Int.cast_ofNat_Int,tfieldAddr,tload,rowOf,partT,List.getElem?_map,h44,h45m,h45l,h45a,h67,h76,h77,h79,h80]<;>exact rfl)|exact rfl)));(with_reducible apply TO.here))|((with_reducible apply TX.region);(focus (simp only [zl]<;>exact rfl));(focus rfl);(try dsimp only))|fail)
                      apply TO.pop1 (wn T) (pop_min rfl rfl)
                      repeat exact sd T
                      repeat (first|(with_reducible first|refine mv ?_|refine TO.nil ?_)|((with_reducible first|apply TO.ia|apply TO.fa|apply TO.ld|apply TO.mv);(repeat (focus (show _ = _;first|exact k1 rfl|exact k2 rfl|(simp only [zz,y68,e_iiiii,Nat.reduceAdd,Nat.reduceMul,Nat.reduceLeDiff,Nat.reduceEqDiff,tindexAddr,z5,Int.reduceToNat,Int.reduceLE,Int.reduceLT,Int.cast_ofNat_Int,tfieldAddr,tload,rowOf,partT,List.getElem?_map,h44,h45m,h45l,h45a,h67,h76,h77,h79,h80]<;>exact rfl)|exact rfl)));(with_reducible apply TO.here))|((with_reducible apply TX.region);(focus (simp only [zl]<;>exact rfl));(focus rfl);(try dsimp only))|fail)
                      apply TO.pop1 (wn T) (pop_max rfl rfl)
                      repeat exact sd T
                      repeat (first|(with_reducible first|refine mv ?_|refine TO.nil ?_)|((with_reducible first|apply TO.bld|apply TO.ia|apply TO.sv|apply TO.mv|apply TO.bin|apply TO.asg);(repeat (focus (show _ = _;first|exact k1 rfl|exact k2 rfl|(simp only [zz,y68,e_iiiii,Nat.reduceAdd,Nat.reduceMul,Nat.reduceLeDiff,Nat.reduceEqDiff,tbuild,tfill,tindexAddr,z5,Int.reduceToNat,Int.reduceLE,Int.reduceLT,Int.cast_ofNat_Int,h44,h45m,h45l,h45a,h67,h76,h77,h79,h80]<;>exact rfl)|exact rfl)));(with_reducible apply TO.here))|((with_reducible apply TX.region);(focus (simp only [zl]<;>exact rfl));(focus rfl);(try dsimp only))|fail)
                      cases hr
                      refine ⟨rfl,?_⟩
                      exact wk_ T [some 0,some 1,some 2,some 3,some 4,some 5] rfl (rv (rv (rv (rv (rv (rv .nil rfl) rfl) rfl) rfl) rfl) rfl)
                    · repeat (first|(with_reducible first|refine mv ?_|refine TO.nil ?_)|((with_reducible first|apply TO.ia|apply TO.fa|apply TO.ld|apply TO.mv);(repeat (focus (show _ = _;first|exact k1 rfl|exact k2 rfl|(simp only [zz,y68,e_iiiii,Nat.reduceAdd,Nat.reduceMul,Nat.reduceLeDiff,Nat.reduceEqDiff,tindexAddr,z5,Int.reduceToNat,Int.reduceLE,Int.reduceLT,Int.cast_ofNat_Int,tfieldAddr,tload,rowOf,partT,List.getElem?_map,h44,h45m,h45l,h45a,h67,h76,h77,h79,h80]<;>exact rfl)|exact rfl)));(with_reducible apply TO.here))|((with_reducible apply TX.region);(focus (simp only [zl]<;>exact rfl));(focus rfl);(try dsimp only))|((with_reducible apply TX.cond_true);(focus rfl);(focus (first|rfl|(simp only [z1,zn,h44,h45m,h45l,h45a,h67,h76,h77,h79,h80];done))))|((with_reducible apply TX.cond_false);(focus rfl);(focus (first|rfl|(simp only [z1,zn,h44,h45m,h45l,h45a,h67,h76,h77,h79,h80];done))))|fail)
                      have T:=an h80 T
                      apply TO.pop1 (wn T) (pop_min rfl rfl)
                      repeat exact sd T
                      repeat (first|(with_reducible first|refine mv ?_|refine TO.nil ?_)|((with_reducible first|apply TO.ia|apply TO.fa|apply TO.ld|apply TO.mv);(repeat (focus (show _ = _;first|exact k1 rfl|exact k2 rfl|(simp only [zz,y68,e_iiiii,Nat.reduceAdd,Nat.reduceMul,Nat.reduceLeDiff,Nat.reduceEqDiff,tindexAddr,z5,Int.reduceToNat,Int.reduceLE,Int.reduceLT,Int.cast_ofNat_Int,tfieldAddr,tload,rowOf,partT,List.getElem?_map,h44,h45m,h45l,h45a,h67,h76,h77,h79,h80]<;>exact rfl)|exact rfl)));(with_reducible apply TO.here))|((with_reducible apply TX.region);(focus (simp only [zl]<;>exact rfl));(focus rfl);(try dsimp only))|fail)
                      apply TO.pop1 (wn T) (pop_max rfl rfl)
                      repeat exact sd T
                      repeat (first|(with_reducible first|refine mv ?_|refine TO.nil ?_)|((with_reducible first|apply TO.bld|apply TO.ia|apply TO.sv|apply TO.fa|apply TO.ld|apply TO.mv);(repeat (focus (show _ = _;first|exact k1 rfl|exact k2 rfl|(simp only [zz,y68,e_iiiii,Nat.reduceAdd,Nat.reduceMul,Nat.reduceLeDiff,Nat.reduceEqDiff,tbuild,tfill,tindexAddr,z5,Int.reduceToNat,Int.reduceLE,Int.reduceLT,Int.cast_ofNat_Int,tfieldAddr,tload,rowOf,partT,List.getElem?_map,h44,h45m,h45l,h45a,h67,h76,h77,h79,h80]<;>exact rfl)|exact rfl)));(with_reducible apply TO.here))|((with_reducible apply TX.region);(focus (simp only [zl]<;>exact rfl));(focus rfl);(try dsimp only))|fail)
                      apply TO.pop1 (wn T) (pop_min rfl rfl)
                      repeat exact sd T
                      repeat (first|(with_reducible first|refine mv ?_|refine TO.nil ?_)|((with_reducible first|apply TO.ia|apply TO.fa|apply TO.ld|apply TO.mv);(repeat (focus (show _ = _;first|exact k1 rfl|exact k2 rfl|(simp only [zz,y68,e_iiiii,Nat.reduceAdd,Nat.reduceMul,Nat.reduceLeDiff,Nat.reduceEqDiff,tindexAddr,z5,Int.reduceToNat,Int.reduceLE,Int.reduceLT,Int.cast_ofNat_Int,tfieldAddr,tload,rowOf,partT,List.getElem?_map,h44,h45m,h45l,h45a,h67,h76,h77,h79,h80]<;>exact rfl)|exact rfl)));(with_reducible apply TO.here))|((with_reducible apply TX.region);(focus (simp only [zl]<;>exact rfl));(focus rfl);(try dsimp only))|fail)
                      apply TO.pop1 (wn T) (pop_max rfl rfl)
                      repeat exact sd T
                      repeat (first|(with_reducible first|refine mv ?_|refine TO.nil ?_)|((with_reducible first|apply TO.bld|apply TO.ia|apply TO.sv|apply TO.mv|apply TO.bin|apply TO.asg);(repeat (focus (show _ = _;first|exact k1 rfl|exact k2 rfl|(simp only [zz,y68,e_iiiii,Nat.reduceAdd,Nat.reduceMul,Nat.reduceLeDiff,Nat.reduceEqDiff,tbuild,tfill,tindexAddr,z5,Int.reduceToNat,Int.reduceLE,Int.reduceLT,Int.cast_ofNat_Int,h44,h45m,h45l,h45a,h67,h76,h77,h79,h80]<;>exact rfl)|exact rfl)));(with_reducible apply TO.here))|((with_reducible apply TX.region);(focus (simp only [zl]<;>exact rfl));(focus rfl);(try dsimp only))|fail)
                      cases hr
                      refine ⟨rfl,?_⟩
                      exact wk_ T [some 0,some 1,some 2,some 3,some 4,some 5] rfl (rv (rv (rv (rv (rv (rv .nil rfl) rfl) rfl) rfl) rfl) rfl)
                  · repeat (first|(with_reducible first|refine mv ?_|refine TO.nil ?_)|((with_reducible first|apply TO.pk|apply TO.ia|apply TO.fa|apply TO.ld|apply TO.mv);(repeat (focus (show _ = _;first|exact k1 rfl|exact k2 rfl|(simp only [zz,y68,e_iiiii,Nat.reduceAdd,Nat.reduceMul,Nat.reduceLeDiff,Nat.reduceEqDiff,tindexAddr,z5,Int.reduceToNat,Int.reduceLE,Int.reduceLT,Int.cast_ofNat_Int,tfieldAddr,tload,rowOf,partT,List.getElem?_map,h44,h45m,h45l,h45a,h67,h76,h77,h79]<;>exact rfl)|exact rfl)));(with_reducible apply TO.here))|((with_reducible apply TO.skip1);(repeat (focus (show _ = _;first|exact k1 rfl|exact k2 rfl|(simp only [zz,y68,e_iiiii,Nat.reduceAdd,Nat.reduceMul,Nat.reduceLeDiff,Nat.reduceEqDiff,twant,zp,zs,h44,h45m,h45l,h45a,h67,h76,h77,h79]<;>exact rfl)|exact rfl)));(with_reducible apply TO.here))|((with_reducible apply TX.region);(focus (simp only [zl]<;>exact rfl));(focus rfl);(try dsimp only))|((with_reducible apply TX.cond_true);(focus rfl);(focus (first|rfl|(simp only [z1,zn,h44,h45m,h45l,h45a,h67,h76,h77,h79];done))))|((with_reducible apply TX.cond_false);(focus rfl);(focus (first|rfl|(simp only [z1,zn,h44,h45m,h45l,h45a,h67,h76,h77,h79];done))))|fail)
                    have T:=an h79 T
                    apply TO.pop1 (wn T) (pop_min rfl rfl)
                    repeat exact sd T
                    repeat (first|(with_reducible first|refine mv ?_|refine TO.nil ?_)|((with_reducible first|apply TO.ia|apply TO.fa|apply TO.ld|apply TO.mv);(repeat (focus (show _ = _;first|exact k1 rfl|exact k2 rfl|(simp only [zz,y68,e_iiiii,Nat.reduceAdd,Nat.reduceMul,Nat.reduceLeDiff,Nat.reduceEqDiff,tindexAddr,z5,Int.reduceToNat,Int.reduceLE,Int.reduceLT,Int.cast_ofNat_Int,tfieldAddr,tload,rowOf,partT,List.getElem?_map,h44,h45m,h45l,h45a,h67,h76,h77,h79]<;>exact rfl)|exact rfl)));(with_reducible apply TO.here))|((with_reducible apply TX.region);(focus (simp only [zl]<;>exact rfl));(focus rfl);(try dsimp only))|fail)
                    apply TO.pop1 (wn T) (pop_max rfl rfl)
                    repeat exact sd T
                    repeat (first|(with_reducible first|refine mv ?_|refine TO.nil ?_)|((with_reducible first|apply TO.bld|apply TO.ia|apply TO.sv|apply TO.fa|apply TO.ld|apply TO.mv);(repeat (focus (show _ = _;first|exact k1 rfl|exact k2 rfl|(simp only [zz,y68,e_iiiii,Nat.reduceAdd,Nat.reduceMul,Nat.reduceLeDiff,Nat.reduceEqDiff,tbuild,tfill,tindexAddr,z5,Int.reduceToNat,Int.reduceLE,Int.reduceLT,Int.cast_ofNat_Int,tfieldAddr,tload,rowOf,partT,List.getElem?_map,h44,h45m,h45l,h45a,h67,h76,h77,h79]<;>exact rfl)|exact rfl)));(with_reducible apply TO.here))|((with_reducible apply TX.region);(focus (simp only [zl]<;>exact rfl));(focus rfl);(try dsimp only))|fail)
                    apply TO.pop1 (wn T) (pop_min rfl rfl)
                    repeat exact sd T
                    repeat (first|(with_reducible first|refine mv ?_|refine TO.nil ?_)|((with_reducible first|apply TO.ia|apply TO.fa|apply TO.ld|apply TO.mv);(repeat (focus (show _ = _;first|exact k1 rfl|exact k2 rfl|(simp only [zz,y68,e_iiiii,Nat.reduceAdd,Nat.reduceMul,Nat.reduceLeDiff,Nat.reduceEqDiff,tindexAddr,z5,Int.reduceToNat,Int.reduceLE,Int.reduceLT,Int.cast_ofNat_Int,tfieldAddr,tload,rowOf,partT,List.getElem?_map,h44,h45m,h45l,h45a,h67,h76,h77,h79]<;>exact rfl)|exact rfl)));(with_reducible apply TO.here))|((with_reducible apply TX.region);(focus (simp only [zl]<;>exact rfl));(focus rfl);(try dsimp only))|fail)
                    apply TO.pop1 (wn T) (pop_max rfl rfl)
                    repeat exact sd T
                    repeat (first|(with_reducible first|refine mv ?_|refine TO.nil ?_)|((with_reducible first|apply TO.bld|apply TO.ia|apply TO.sv|apply TO.mv|apply TO.bin|apply TO.asg);(repeat (focus (show _ = _;first|exact k1 rfl|exact k2 rfl|(simp only [zz,y68,e_iiiii,Nat.reduceAdd,Nat.reduceMul,Nat.reduceLeDiff,Nat.reduceEqDiff,tbuild,tfill,tindexAddr,z5,Int.reduceToNat,Int.reduceLE,Int.reduceLT,Int.cast_ofNat_Int,h44,h45m,h45l,h45a,h67,h76,h77,h79]<;>exact rfl)|exact rfl)));(with_reducible apply TO.here))|((with_reducible apply TX.region);(focus (simp only [zl]<;>exact rfl));(focus rfl);(try dsimp only))|fail)
                    cases hr
                    refine ⟨rfl,?_⟩
                    exact wk_ T [some 0,some 1,some 2,some 3,some 4,some 5] rfl (rv (rv (rv (rv (rv (rv .nil rfl) rfl) rfl) rfl) rfl) rfl)
                · have T:=an h77 T
                  refine wA T (g:=?_)
                  obtain ⟨⟨v142,v143⟩,h81,hr⟩:=bs hr
                  try dsimp only at hr
                  apply TO.cal (wn T) rfl goFn92 (ref07_turned_spec h81) rfl rfl rfl
                  repeat exact sd T
                  refine wA T (g:=?_)
                  rcases ifs hr with ⟨h82,hr⟩|⟨h82,hr⟩
                  · have T:=an h82 T
                    refine wa_ T (g:=?_)
                    rcases ifs hr with ⟨h83,hr⟩|⟨h83,hr⟩
                    · repeat (first|(with_reducible first|refine mv ?_|refine TO.nil ?_)|((with_reducible first|apply TO.mv|apply TO.bld|apply TO.sv|apply TO.ia|apply TO.fa|apply TO.ld);(repeat (focus (show _ = _;first|exact k1 rfl|exact k2 rfl|(simp only [zz,y68,e_iiiii,Nat.reduceAdd,Nat.reduceMul,Nat.reduceLeDiff,Nat.reduceEqDiff,tbuild,tfill,tindexAddr,z5,Int.reduceToNat,Int.reduceLE,Int.reduceLT,Int.cast_ofNat_Int,tfieldAddr,tload,rowOf,partT,List.getElem?_map,h44,h45m,h45l,h45a,h67,h76,h77,h82,h83]<;>exact rfl)|exact rfl)));(with_reducible apply TO.here))|((with_reducible apply TX.region);(focus (simp only [zl]<;>exact rfl));(focus rfl);(try dsimp only))|((with_reducible apply TX.cond_true);(focus rfl);(focus (first|rfl|(simp only [z1,zn,h44,h45m,h45l,h45a,h67,h76,h77,h82,h83];done))))|((with_reducible apply TX.cond_false);(focus rfl);(focus (first|rfl|(simp only [z1,zn,h44,h45m,h45l,h45a,h67,h76,h77,h82,h83];done))))|fail)
                      have T:=an h83 T
                      apply TO.pop1 (wn T) (pop_min rfl rfl)
                      repeat exact sd T
                      repeat (first|(with_reducible first|refine mv ?_|refine TO.nil ?_)|((with_reducible first|apply TO.ia|apply TO.fa|apply TO.ld|apply TO.mv);(repeat (focus (show _ = _;first|exact k1 rfl|exact k2 rfl|(simp only [zz,y68,e_iiiii,Nat.reduceAdd,Nat.reduceMul,Nat.reduceLeDiff,Nat.reduceEqDiff,tindexAddr,z5,Int.reduceToNat,Int.reduceLE,Int.reduceLT,Int.cast_ofNat_Int,tfieldAddr,tload,rowOf,partT,List.getElem?_map,h44,h45m,h45l,h45a,h67,h76,h77,h82,h83]<;>exact rfl)|exact rfl)));(with_reducible apply TO.here))|((with_reducible apply TX.region);(focus (simp only [zl]<;>exact rfl));(focus rfl);(try dsimp only))|fail)
                      apply TO.pop1 (wn T) (pop_max rfl rfl)
                      repeat exact sd T
                      repeat (first|(with_reducible first|refine mv ?_|refine TO.nil ?_)|((with_reducible first|apply TO.bld|apply TO.ia|apply TO.sv|apply TO.fa|apply TO.ld|apply TO.mv);(repeat (focus (show _ = _;first|exact k1 rfl|exact k2 rfl|(simp only [zz,y68,e_iiiii,Nat.reduceAdd,Nat.reduceMul,Nat.reduceLeDiff,Nat.reduceEqDiff,tbuild,tfill,tindexAddr,z5,Int.reduceToNat,Int.reduceLE,Int.reduceLT,Int.cast_ofNat_Int,tfieldAddr,tload,rowOf,partT,List.getElem?_map,h44,h45m,h45l,h45a,h67,h76,h77,h82,h83]<;>exact rfl)|exact rfl)));(with_reducible apply TO.here))|((with_reducible apply TX.region);(focus (simp only [zl]<;>exact rfl));(focus rfl);(try dsimp only))|fail)
                      apply TO.pop1 (wn T) (pop_min rfl rfl)
                      repeat exact sd T
                      repeat (first|(with_reducible first|refine mv ?_|refine TO.nil ?_)|((with_reducible first|apply TO.ia|apply TO.fa|apply TO.ld|apply TO.mv);(repeat (focus (show _ = _;first|exact k1 rfl|exact k2 rfl|(simp only [zz,y68,e_iiiii,Nat.reduceAdd,Nat.reduceMul,Nat.reduceLeDiff,Nat.reduceEqDiff,tindexAddr,z5,Int.reduceToNat,Int.reduceLE,Int.reduceLT,Int.cast_ofNat_Int,tfieldAddr,tload,rowOf,partT,List.getElem?_map,h44,h45m,h45l,h45a,h67,h76,h77,h82,h83]<;>exact rfl)|exact rfl)));(with_reducible apply TO.here))|((with_reducible apply TX.region);(focus (simp only [zl]<;>exact rfl));(focus rfl);(try dsimp only))|fail)
                      apply TO.pop1 (wn T) (pop_max rfl rfl)
                      repeat exact sd T
                      repeat (first|(with_reducible first|refine mv ?_|refine TO.nil ?_)|((with_reducible first|apply TO.bld|apply TO.ia|apply TO.sv|apply TO.mv|apply TO.bin|apply TO.asg);(repeat (focus (show _ = _;first|exact k1 rfl|exact k2 rfl|(simp only [zz,y68,e_iiiii,Nat.reduceAdd,Nat.reduceMul,Nat.reduceLeDiff,Nat.reduceEqDiff,tbuild,tfill,tindexAddr,z5,Int.reduceToNat,Int.reduceLE,Int.reduceLT,Int.cast_ofNat_Int,h44,h45m,h45l,h45a,h67,h76,h77,h82,h83]<;>exact rfl)|exact rfl)));(with_reducible apply TO.here))|((with_reducible apply TX.region);(focus (simp only [zl]<;>exact rfl));(focus rfl);(try dsimp only))|fail)
                      cases hr
                      refine ⟨rfl,?_⟩
                      exact wk_ T [some 0,some 1,some 2,some 3,some 4,some 5] rfl (rv (rv (rv (rv (rv (rv .nil rfl) rfl) rfl) rfl) rfl) rfl)
                    · repeat (first|(with_reducible first|refine mv ?_|refine TO.nil ?_)|((with_reducible first|apply TO.ia|apply TO.fa|apply TO.ld|apply TO.mv);(repeat (focus (show _ = _;first|exact k1 rfl|exact k2 rfl|(simp only [zz,y68,e_iiiii,Nat.reduceAdd,Nat.reduceMul,Nat.reduceLeDiff,Nat.reduceEqDiff,tindexAddr,z5,Int.reduceToNat,Int.reduceLE,Int.reduceLT,Int.cast_ofNat_Int,tfieldAddr,tload,rowOf,partT,List.getElem?_map,h44,h45m,h45l,h45a,h67,h76,h77,h82,h83]<;>exact rfl)|exact rfl)));(with_reducible apply TO.here))|((with_reducible apply TX.region);(focus (simp only [zl]<;>exact rfl));(focus rfl);(try dsimp only))|((with_reducible apply TX.cond_true);(focus rfl);(focus (first|rfl|(simp only [z1,zn,h44,h45m,h45l,h45a,h67,h76,h77,h82,h83];done))))|((with_reducible apply TX.cond_false);(focus rfl);(focus (first|rfl|(simp only [z1,zn,h44,h45m,h45l,h45a,h67,h76,h77,h82,h83];done))))|fail)
                      have T:=an h83 T
                      apply TO.pop1 (wn T) (pop_min rfl rfl)
                      repeat exact sd T
                      repeat (first|(with_reducible first|refine mv ?_|refine TO.nil ?_)|((with_reducible first|apply TO.ia|apply TO.fa|apply TO.ld|apply TO.mv);(repeat (focus (show _ = _;first|exact k1 rfl|exact k2 rfl|(simp only [zz,y68,e_iiiii,Nat.reduceAdd,Nat.reduceMul,Nat.reduceLeDiff,Nat.reduceEqDiff,tindexAddr,z5,Int.reduceToNat,Int.reduceLE,Int.reduceLT,Int.cast_ofNat_Int,tfieldAddr,tload,rowOf,partT,List.getElem?_map,h44,h45m,h45l,h45a,h67,h76,h77,h82,h83]<;>exact rfl)|exact rfl)));(with_reducible apply TO.here))|((with_reducible apply TX.region);(focus (simp only [zl]<;>exact rfl));(focus rfl);(try dsimp only))|fail)
                      apply TO.pop1 (wn T) (pop_max rfl rfl)
                      repeat exact sd T
                      repeat (first|(with_reducible first|refine mv ?_|refine TO.nil ?_)|((with_reducible first|apply TO.bld|apply TO.ia|apply TO.sv|apply TO.fa|apply TO.ld|apply TO.mv);(repeat (focus (show _ = _;first|exact k1 rfl|exact k2 rfl|(simp only [zz,y68,e_iiiii,Nat.reduceAdd,Nat.reduceMul,Nat.reduceLeDiff,Nat.reduceEqDiff,tbuild,tfill,tindexAddr,z5,Int.reduceToNat,Int.reduceLE,Int.reduceLT,Int.cast_ofNat_Int,tfieldAddr,tload,rowOf,partT,List.getElem?_map,h44,h45m,h45l,h45a,h67,h76,h77,h82,h83]<;>exact rfl)|exact rfl)));(with_reducible apply TO.here))|((with_reducible apply TX.region);(focus (simp only [zl]<;>exact rfl));(focus rfl);(try dsimp only))|fail)
                      apply TO.pop1 (wn T) (pop_min rfl rfl)
                      repeat exact sd T
                      repeat (first|(with_reducible first|refine mv ?_|refine TO.nil ?_)|((with_reducible first|apply TO.ia|apply TO.fa|apply TO.ld|apply TO.mv);(repeat (focus (show _ = _;first|exact k1 rfl|exact k2 rfl|(simp only [zz,y68,e_iiiii,Nat.reduceAdd,Nat.reduceMul,Nat.reduceLeDiff,Nat.reduceEqDiff,tindexAddr,z5,Int.reduceToNat,Int.reduceLE,Int.reduceLT,Int.cast_ofNat_Int,tfieldAddr,tload,rowOf,partT,List.getElem?_map,h44,h45m,h45l,h45a,h67,h76,h77,h82,h83]<;>exact rfl)|exact rfl)));(with_reducible apply TO.here))|((with_reducible apply TX.region);(focus (simp only [zl]<;>exact rfl));(focus rfl);(try dsimp only))|fail)
                      apply TO.pop1 (wn T) (pop_max rfl rfl)
                      repeat exact sd T
                      repeat (first|(with_reducible first|refine mv ?_|refine TO.nil ?_)|((with_reducible first|apply TO.bld|apply TO.ia|apply TO.sv|apply TO.mv|apply TO.bin|apply TO.asg);(repeat (focus (show _ = _;first|exact k1 rfl|exact k2 rfl|(simp only [zz,y68,e_iiiii,Nat.reduceAdd,Nat.reduceMul,Nat.reduceLeDiff,Nat.reduceEqDiff,tbuild,tfill,tindexAddr,z5,Int.reduceToNat,Int.reduceLE,Int.reduceLT,Int.cast_ofNat_Int,h44,h45m,h45l,h45a,h67,h76,h77,h82,h83]<;>exact rfl)|exact rfl)));(with_reducible apply TO.here))|((with_reducible apply TX.region);(focus (simp only [zl]<;>exact rfl));(focus rfl);(try dsimp only))|fail)
                      cases hr
                      refine ⟨rfl,?_⟩
                      exact wk_ T [some 0,some 1,some 2,some 3,some 4,some 5] rfl (rv (rv (rv (rv (rv (rv .nil rfl) rfl) rfl) rfl) rfl) rfl)
                  · repeat (first|(with_reducible first|refine mv ?_|refine TO.nil ?_)|((with_reducible first|apply TO.pk|apply TO.ia|apply TO.fa|apply TO.ld|apply TO.mv);(repeat (focus (show _ = _;first|exact k1 rfl|exact k2 rfl|(simp only [zz,y68,e_iiiii,Nat.reduceAdd,Nat.reduceMul,Nat.reduceLeDiff,Nat.reduceEqDiff,tindexAddr,z5,Int.reduceToNat,Int.reduceLE,Int.reduceLT,Int.cast_ofNat_Int,tfieldAddr,tload,rowOf,partT,List.getElem?_map,h44,h45m,h45l,h45a,h67,h76,h77,h82]<;>exact rfl)|exact rfl)));(with_reducible apply TO.here))|((with_reducible apply TO.skip1);(repeat (focus (show _ = _;first|exact k1 rfl|exact k2 rfl|(simp only [zz,y68,e_iiiii,Nat.reduceAdd,Nat.reduceMul,Nat.reduceLeDiff,Nat.reduceEqDiff,twant,zp,zs,h44,h45m,h45l,h45a,h67,h76,h77,h82]<;>exact rfl)|exact rfl)));(with_reducible apply TO.here))|((with_reducible apply TX.region);(focus (simp only [zl]<;>exact rfl));(focus rfl);(try dsimp only))|((with_reducible apply TX.cond_true);(focus rfl);(focus (first|rfl|(simp only [z1,zn,h44,h45m,h45l,h45a,h67,h76,h77,h82];done))))|((with_reducible apply TX.cond_false);(focus rfl);(focus (first|rfl|(simp only [z1,zn,h44,h45m,h45l,h45a,h67,h76,h77,h82];done))))|fail)
                    have T:=an h82 T
                    apply TO.pop1 (wn T) (pop_min rfl rfl)
                    repeat exact sd T
                    repeat (first|(with_reducible first|refine mv ?_|refine TO.nil ?_)|((with_reducible first|apply TO.ia|apply TO.fa|apply TO.ld|apply TO.mv);(repeat (focus (show _ = _;first|exact k1 rfl|exact k2 rfl|(simp only [zz,y68,e_iiiii,Nat.reduceAdd,Nat.reduceMul,Nat.reduceLeDiff,Nat.reduceEqDiff,tindexAddr,z5,Int.reduceToNat,Int.reduceLE,Int.reduceLT,Int.cast_ofNat_Int,tfieldAddr,tload,rowOf,partT,List.getElem?_map,h44,h45m,h45l,h45a,h67,h76,h77,h82]<;>exact rfl)|exact rfl)));(with_reducible apply TO.here))|((with_reducible apply TX.region);(focus (simp only [zl]<;>exact rfl));(focus rfl);(try dsimp only))|fail)
                    apply TO.pop1 (wn T) (pop_max rfl rfl)
                    repeat exact sd T
                    repeat (first|(with_reducible first|refine mv ?_|refine TO.nil ?_)|((with_reducible first|apply TO.bld|apply TO.ia|apply TO.sv|apply TO.fa|apply TO.ld|apply TO.mv);(repeat (focus (show _ = _;first|exact k1 rfl|exact k2 rfl|(simp only [zz,y68,e_iiiii,Nat.reduceAdd,Nat.reduceMul,Nat.reduceLeDiff,Nat.reduceEqDiff,tbuild,tfill,tindexAddr,z5,Int.reduceToNat,Int.reduceLE,Int.reduceLT,Int.cast_ofNat_Int,tfieldAddr,tload,rowOf,partT,List.getElem?_map,h44,h45m,h45l,h45a,h67,h76,h77,h82]<;>exact rfl)|exact rfl)));(with_reducible apply TO.here))|((with_reducible apply TX.region);(focus (simp only [zl]<;>exact rfl));(focus rfl);(try dsimp only))|fail)
                    apply TO.pop1 (wn T) (pop_min rfl rfl)
                    repeat exact sd T
                    repeat (first|(with_reducible first|refine mv ?_|refine TO.nil ?_)|((with_reducible first|apply TO.ia|apply TO.fa|apply TO.ld|apply TO.mv);(repeat (focus (show _ = _;first|exact k1 rfl|exact k2 rfl|(simp only [zz,y68,e_iiiii,Nat.reduceAdd,Nat.reduceMul,Nat.reduceLeDiff,Nat.reduceEqDiff,tindexAddr,z5,Int.reduceToNat,Int.reduceLE,Int.reduceLT,Int.cast_ofNat_Int,tfieldAddr,tload,rowOf,partT,List.getElem?_map,h44,h45m,h45l,h45a,h67,h76,h77,h82]<;>exact rfl)|exact rfl)));(with_reducible apply TO.here))|((with_reducible apply TX.region);(focus (simp only [zl]<;>exact rfl));(focus rfl);(try dsimp only))|fail)
                    apply TO.pop1 (wn T) (pop_max rfl rfl)
                    repeat exact sd T
                    repeat (first|(with_reducible first|refine mv ?_|refine TO.nil ?_)|((with_reducible first|apply TO.bld|apply TO.ia|apply TO.sv|apply TO.mv|apply TO.bin|apply TO.asg);(repeat (focus (show _ = _;first|exact k1 rfl|exact k2 rfl|(simp only [zz,y68,e_iiiii,Nat.reduceAdd,Nat.reduceMul,Nat.reduceLeDiff,Nat.reduceEqDiff,tbuild,tfill,tindexAddr,z5,Int.reduceToNat,Int.reduceLE,Int.reduceLT,Int.cast_ofNat_Int,h44,h45m,h45l,h45a,h67,h76,h77,h82]<;>exact rfl)|exact rfl)));(with_reducible apply TO.here))|((with_reducible apply TX.region);(focus (simp only [zl]<;>exact rfl));(focus rfl);(try dsimp only))|fail)
                    cases hr
                    refine ⟨rfl,?_⟩
                    exact wk_ T [some 0,some 1,some 2,some 3,some 4,some 5] rfl (rv (rv (rv (rv (rv (rv .nil rfl) rfl) rfl) rfl) rfl) rfl)
              · have T:=an h76 T
                refine wa_ T (g:=?_)
                cases hr
                refine ⟨rfl,?_⟩
                exact wk_ T [some 0,some 1,some 2,some 3,some 4,some 5] rfl (rv (rv (rv (rv (rv (rv .nil rfl) rfl) rfl) rfl) rfl) rfl)
            · intro e h;cases h
            · try dsimp only
              refine wa_ T (g:=?_)
              cases hr
              refine ⟨rfl,?_⟩
              exact wk_ T [some 0,some 1,some 2,some 3,some 4,some 5] rfl (rv (rv (rv (rv (rv (rv .nil rfl) rfl) rfl) rfl) rfl) rfl)
            · try dsimp only
              exact wk_ T [some 0,some 1,some 2,some 3,some 4,some 5] rfl (rv (rv (rv (rv (rv (rv .nil rfl) rfl) rfl) rfl) rfl) rfl)
          · have T:=an h67 T
            refine wa_ T (g:=?_)
            cases hr
            refine ⟨rfl,?_⟩
            exact wk_ T [some 0,some 1,some 5] rfl (rv (rv (rv .nil rfl) rfl) rfl)
        · intro e h;cases h
        · try dsimp only
          refine wa_ T (g:=?_)
          refine TX.unroll ?_
          repeat (first|(with_reducible first|refine mv ?_|refine TO.nil ?_)|((with_reducible first|apply TO.mv|apply TO.bin|apply TO.asg);(repeat (focus (show _ = _;first|exact k1 rfl|exact k2 rfl|(simp only [zz,y68,e_iiiii,Nat.reduceAdd,Nat.reduceMul,Nat.reduceLeDiff,Nat.reduceEqDiff,h44,h45m,h45l,h45a]<;>exact rfl)|exact rfl)));(with_reducible apply TO.here))|((with_reducible apply TX.region);(focus (simp only [zl]<;>exact rfl));(focus rfl);(try dsimp only))|with_reducible refine TD.nil ?_|((with_reducible first|apply TD.mv|apply TD.ia|apply TD.fa|apply TD.ld|apply TD.bin|apply TD.bld|apply TD.sv);(repeat (focus (show _ = _;first|exact k1 rfl|exact k2 rfl|(simp only [zz,y68,e_iiiii,Nat.reduceAdd,Nat.reduceMul,Nat.reduceLeDiff,Nat.reduceEqDiff,tindexAddr,z5,Int.reduceToNat,Int.reduceLE,Int.reduceLT,Int.cast_ofNat_Int,tfieldAddr,tload,rowOf,partT,List.getElem?_map,tbuild,tfill,h44,h45m,h45l,h45a]<;>exact rfl)|exact rfl)));(with_reducible refine TD.here ?_))|((with_reducible apply TX.drawn);(focus decide +kernel);(focus (simp only [zl]<;>exact rfl));(focus exact rfl);(try dsimp only))|((with_reducible apply TX.cond_true);(focus rfl);(focus (first|rfl|(simp only [z1,zn,h44,h45m,h45l,h45a];done))))|((with_reducible apply TX.cond_false);(focus rfl);(focus (first|rfl|(simp only [z1,zn,h44,h45m,h45l,h45a];done))))|fail)
          refine TX.unroll ?_
          repeat (first|(with_reducible first|refine mv ?_|refine TO.nil ?_)|((with_reducible first|apply TO.mv|apply TO.bin|apply TO.asg);(repeat (focus (show _ = _;first|exact k1 rfl|exact k2 rfl|(simp only [zz,y68,e_iiiii,Nat.reduceAdd,Nat.reduceMul,Nat.reduceLeDiff,Nat.reduceEqDiff,h44,h45m,h45l,h45a]<;>exact rfl)|exact rfl)));(with_reducible apply TO.here))|((with_reducible apply TX.region);(focus (simp only [zl]<;>exact rfl));(focus rfl);(try dsimp only))|with_reducible refine TD.nil ?_|((with_reducible first|apply TD.mv|apply TD.ia|apply TD.fa|apply TD.ld|apply TD.bin|apply TD.bld|apply TD.sv);(repeat (focus (show _ = _;first|exact k1 rfl|exact k2 rfl|(simp only [zz,y68,e_iiiii,Nat.reduceAdd,Nat.reduceMul,Nat.reduceLeDiff,Nat.reduceEqDiff,tindexAddr,z5,Int.reduceToNat,Int.reduceLE,Int.reduceLT,Int.cast_ofNat_Int,tfieldAddr,tload,rowOf,partT,List.getElem?_map,tbuild,tfill,h44,h45m,h45l,h45a]<;>exact rfl)|exact rfl)));(with_reducible refine TD.here ?_))|((with_reducible apply TX.drawn);(focus decide +kernel);(focus (simp only [zl]<;>exact rfl));(focus exact rfl);(try dsimp only))|((with_reducible apply TX.cond_true);(focus rfl);(focus (first|rfl|(simp only [z1,zn,h44,h45m,h45l,h45a];done))))|((with_reducible apply TX.cond_false);(focus rfl);(focus (first|rfl|(simp only [z1,zn,h44,h45m,h45l,h45a];done))))|fail)
          obtain ⟨_,h86,hr⟩:=bs hr
          refine TX.loopE (step:=ref07_EndsAt_l4) (x:=()) h86 (fun _=>⟨.junk :: .junk :: .fptr true [.v (.int .i64 v1),.v (.int .i64 v2),.list 5 (v3.map e_iiiii)] 0 :: .fptr true [.v (.int .i64 v4),.v (.int .i64 v5),.v (.int .i64 v6)] 0 :: .lptr 0 0 0 :: .lptr 1 0 0 :: .v (.int .i64 v15) :: .junk :: .junk :: .junk :: .lptr 2 0 0 :: .junk :: .junk :: .junk :: .junk :: .junk :: .v (.int .i64 2) :: .junk :: .junk :: .junk :: .junk :: .junk :: .junk :: .junk :: .junk :: .junk :: .junk :: .junk :: .junk :: .junk :: .junk :: .junk :: .junk :: .junk :: .junk :: .junk :: .junk :: .junk :: .junk :: .junk :: .junk :: .junk :: .junk :: .junk :: .junk :: .junk :: .junk :: .junk :: .junk :: .junk :: .junk :: .junk :: .junk :: .junk :: .junk :: .junk :: .junk :: .junk :: .junk :: .junk :: .junk :: .junk :: .junk :: .junk :: .junk :: .junk :: .junk :: .junk :: .junk :: .junk :: .junk :: .junk :: .junk :: .junk :: .junk :: .junk :: .junk :: .junk :: .junk :: .junk :: .junk :: .junk :: .junk :: .junk :: .junk :: .junk :: .junk :: .junk :: .junk :: .junk :: .junk :: .junk :: .junk :: .junk :: .junk :: .junk :: .junk :: .junk :: .junk :: .junk :: .junk :: .junk :: .junk :: .junk :: .junk :: .junk :: .junk :: .junk :: .junk :: .junk :: .junk :: .junk :: .junk :: .junk :: .junk :: .junk :: .junk :: .junk :: .junk :: .junk :: .junk :: .junk :: .junk :: .junk :: .junk :: .junk :: .junk :: .junk :: .junk :: .junk :: .junk :: .junk :: .junk :: .junk :: .junk :: .junk :: .junk :: [],[.var [.v (.int .i64 0),.v (.int .i64 0),.v (.int .i64 0),.v (.int .i64 0)],.var [.v (.int .i64 (IntKind.i64.wrap (v11 + v148))),.v (.int .i64 (IntKind.i64.wrap (v12 + v149))),.v (.int .i64 (IntKind.i64.wrap (v13 + v150))),.v (.int .i64 (IntKind.i64.wrap (v14 + v151)))],.var [.v (.int .i64 v148),.v (.int .i64 v149),.v (.int .i64 v150),.v (.int .i64 v151)]]⟩) (fun _=>(.exit 6,⟨.junk :: .junk :: .fptr true [.v (.int .i64 v1),.v (.int .i64 v2),.list 5 (v3.map e_iiiii)] 0 :: .fptr true [.v (.int .i64 v4),.v (.int .i64 v5),.v (.int .i64 v6)] 0 :: .lptr 0 0 0 :: .lptr 1 0 0 :: .v (.int .i64 v15) :: .junk :: .junk :: .junk :: .junk :: .junk :: .junk :: .junk :: .junk :: .junk :: .junk :: .junk :: .junk :: .junk :: .junk :: .junk :: .junk :: .junk :: .junk :: .junk :: .junk :: .junk :: .junk :: .junk :: .junk :: .junk :: .junk :: .junk :: .junk :: .junk :: .junk :: .junk :: .junk :: .junk :: .junk :: .junk :: .junk :: .junk :: .junk :: .junk :: .junk :: .junk :: .junk :: .junk :: .junk :: .junk :: .junk :: .junk :: .junk :: .junk :: .junk :: .junk :: .junk :: .junk :: .junk :: .junk :: .junk :: .junk :: .junk :: .junk :: .junk :: .junk :: .junk :: .junk :: .junk :: .junk :: .junk :: .junk :: .junk :: .junk :: .junk :: .junk :: .junk :: .junk :: .junk :: .junk :: .junk :: .junk :: .junk :: .junk :: .junk :: .junk :: .junk :: .junk :: .junk :: .junk :: .junk :: .junk :: .junk :: .junk :: .junk :: .junk :: .junk :: .junk :: .junk :: .junk :: .junk :: .junk :: .junk :: .junk :: .junk :: .junk :: .junk :: .junk :: .junk :: .junk :: .junk :: .junk :: .junk :: .junk :: .junk :: .junk :: .junk :: .junk :: .junk :: .junk :: .junk :: .junk :: .junk :: .junk :: .junk :: .junk :: .junk :: .junk :: .junk :: .junk :: .junk :: .junk :: .junk :: .junk :: .junk :: [],[.var [.v (.int .i64 0),.v (.int .i64 0),.v (.int .i64 0),.v (.int .i64 0)],.var [.v (.int .i64 (IntKind.i64.wrap (v11 + v148))),.v (.int .i64 (IntKind.i64.wrap (v12 + v149))),.v (.int .i64 (IntKind.i64.wrap (v13 + v150))),.v (.int .i64 (IntKind.i64.wrap (v14 + v151)))]]⟩)) ?_ ?_ ?_ ?_
          · rintro _ v0 hr
            dsimp only [ref07_EndsAt_l4] at hr
            try dsimp only
            refine wa_ T (g:=?_)
            cases hr
            refine ⟨rfl,?_⟩
            exact wk_ T [some 0,some 1] rfl (rv (rv .nil rfl) rfl)
          · intro e h;cases h
          · try dsimp only
            refine wa_ T (g:=?_)
            cases hr
            refine ⟨rfl,?_⟩
            exact wk_ T [some 0,some 1] rfl (rv (rv .nil rfl) rfl)
          · try dsimp only
            exact wk_ T [some 0,some 1,some 2] rfl (rv (rv (rv .nil rfl) rfl) rfl)
        · try dsimp only
          exact wk_ T [some 0,some 1,some 2,some 3,some 4,some 5] rfl (rv (rv (rv (rv (rv (rv .nil rfl) rfl) rfl) rfl) rfl) rfl)
      · have T:=an h44 T
        refine wa_ T (g:=?_)
        cases hr
        refine ⟨rfl,?_⟩
        exact wk_ T [some 0,some 1] rfl (rv (rv .nil rfl) rfl)
    · intro e h;cases h
    · try dsimp only
      refine wA T (g:=?_)
      cases hr
      refine ⟨.inr rfl,_,(ry T),?_⟩
      exact wr [] rfl .nil
    · try dsimp only
      exact wr [some 0,some 1] rfl (rv (rv .nil rfl) rfl)
  rfl

end Go.Rex

namespace Go.Rex
open Go.Proofs
open Go Go.Rex Go.RowKit
set_option maxRecDepth 100000
set_option maxHeartbeats 200000
def y69:=an @ag3 <| an @fd45_0 <| @fd45_1
theorem ref07_squares_spec {v1 : Int} {v2 : Int} {v3 : Int} {v4 : Int} (hr : ref07_squares v1 v2 = some (v3,v4)) : Spec (lim Tryz.prog) 93 [.agg [.v (.int .i64 v1),.v (.int .i64 v2)]] ⟨[.tuple [.v (.int .i64 v3),.v (.int .i64 v4)]],[]⟩:=by
  unfold ref07_squares at hr
  have T:=y69
  apply Spec.fn Tryz.func93 rfl
  focus (simp [Tryz.f93]<;>exact rfl)
  focus
    refine wB T (g:=?_)
    rcases ifs hr with ⟨h1,hr⟩|⟨h1,hr⟩
    · have T:=an h1 T
      refine wA T (g:=?_)
      rcases ifs hr with ⟨h2,hr⟩|⟨h2,hr⟩
      · have T:=an h2 T
        refine wa_ T (g:=?_)
        apply TO.pop1 (wn T) (pop_max rfl rfl)
        repeat exact sd T
        refine wa_ T (g:=?_)
        cases hr
        refine ⟨.inr rfl,_,(ry T),?_⟩
        exact wk_ T [] rfl .nil
      · have T:=an h2 T
        refine wa_ T (g:=?_)
        apply TO.pop1 (wn T) (pop_min rfl rfl)
        repeat exact sd T
        refine wa_ T (g:=?_)
        apply TO.pop1 (wn T) (pop_max rfl rfl)
        repeat exact sd T
        refine wa_ T (g:=?_)
        cases hr
        refine ⟨.inr rfl,_,(ry T),?_⟩
        exact wk_ T [] rfl .nil
    · have T:=an h1 T
      refine wa_ T (g:=?_)
      apply TO.pop1 (wn T) (pop_min rfl rfl)
      repeat exact sd T
      refine wa_ T (g:=?_)
      apply TO.pop1 (wn T) (pop_max rfl rfl)
      repeat exact sd T
      refine wa_ T (g:=?_)
      cases hr
      refine ⟨.inr rfl,_,(ry T),?_⟩
      exact wk_ T [] rfl .nil
  rfl

end Go.Rex

namespace Go.Rex
open Go.Proofs
open Go Go.Rex Go.RowKit
set_option maxRecDepth 100000
set_option maxHeartbeats 200000
def y70:=an @ag24 <| an @ag38 <| an @ag45 <| an @ar58 <| an @cs24 <| an @cs38 <| an @cs45 <| an @cs58 <| an @ok24 <| an @ok38 <| an @ok45 <| an @ok58 <| an @so58 <| an @st45 <| an @zc45 <| @zc58
theorem ref07_SizeAt_spec {v1 : Int} {v2 : Int} {v3 : (List (Int × Int × Int × Int × Int))} {v4 : Int} {v5 : Int} {v6 : Int} {v7 : Int} {v8 : Int} (hr : ref07_SizeAt v1 v2 v3 v4 v5 v6 = some (v7,v8)) : Spec (lim Tryz.prog) 37 [.agg [.v (.int .i64 v1),.v (.int .i64 v2),.list 5 (v3.map e_iiiii)],.agg [.v (.int .i64 v4),.v (.int .i64 v5),.v (.int .i64 v6)]] ⟨[.agg [.v (.int .i64 v7),.v (.int .i64 v8)]],[]⟩:=by
  unfold ref07_SizeAt at hr
  have T:=an y70 <| @e_iiiii.eq_1
  apply Spec.fn Tryz.func37 rfl
  focus (simp [Tryz.f37]<;>exact rfl)
  focus
    refine wB T (g:=?_)
    obtain ⟨⟨v9,v10,v11,v12⟩,h1,hr⟩:=bs hr
    try dsimp only at hr
    apply TO.cal (wn T) rfl goFn36 (ref07_EndsAt_spec h1) rfl rfl rfl
    repeat exact sd T
    repeat (first|(with_reducible first|refine mv ?_|refine TO.nil ?_)|((with_reducible first|apply TO.al|apply TO.sv|apply TO.ia|apply TO.ld);(repeat (focus (show _ = _;first|exact k1 rfl|exact k2 rfl|(simp only [zz,y70,e_iiiii,Nat.reduceAdd,Nat.reduceMul,Nat.reduceLeDiff,Nat.reduceEqDiff,tindexAddr,z5,Int.reduceToNat,Int.reduceLE,Int.reduceLT,Int.cast_ofNat_Int,tload,rowOf,partT,List.getElem?_map]<;>exact rfl)|exact rfl)));(with_reducible apply TO.here))|((with_reducible apply TX.region);(focus (simp only [zl]<;>exact rfl));(focus rfl);(try dsimp only))|fail)
    obtain ⟨⟨v13,v14⟩,h2,hr⟩:=bs hr
    try dsimp only at hr
    apply TO.cal (wn T) rfl goFn93 (ref07_squares_spec h2) rfl rfl rfl
    repeat exact sd T
    repeat (first|(with_reducible first|refine mv ?_|refine TO.nil ?_)|((with_reducible first|apply TO.mv|apply TO.ext|apply TO.asg|apply TO.ia|apply TO.ld);(repeat (focus (show _ = _;first|exact k1 rfl|exact k2 rfl|(simp only [zz,y70,e_iiiii,Nat.reduceAdd,Nat.reduceMul,Nat.reduceLeDiff,Nat.reduceEqDiff,tindexAddr,z5,Int.reduceToNat,Int.reduceLE,Int.reduceLT,Int.cast_ofNat_Int,tload,rowOf,partT,List.getElem?_map]<;>exact rfl)|exact rfl)));(with_reducible apply TO.here))|((with_reducible apply TX.region);(focus (simp only [zl]<;>exact rfl));(focus rfl);(try dsimp only))|fail)
    obtain ⟨⟨v15,v16⟩,h3,hr⟩:=bs hr
    try dsimp only at hr
    apply TO.cal (wn T) rfl goFn93 (ref07_squares_spec h3) rfl rfl rfl
    repeat exact sd T
    refine wa_ T (g:=?_)
    obtain ⟨v17,h4,hr⟩:=bs hr
    apply TO.cal (wn T) rfl goFn94 (base_Root_spec h4) rfl rfl rfl
    repeat exact sd T
    refine wa_ T (g:=?_)
    obtain ⟨v18,h5,hr⟩:=bs hr
    apply TO.cal (wn T) rfl goFn95 (base_RootUp_spec h5) rfl rfl rfl
    repeat exact sd T
    refine wa_ T (g:=?_)
    cases hr
    refine ⟨.inr rfl,_,(ry T),?_⟩
    exact wr [] rfl .nil
  rfl

end Go.Rex

namespace Go.Rex
open Go.Proofs
open Go Go.Rex Go.RowKit
set_option maxRecDepth 100000
set_option maxHeartbeats 200000
def y71:=an @ag22 <| an @ag3 <| an @ag38 <| an @ag40 <| an @ag45 <| an @cs38 <| an @cs40 <| an @cs45 <| an @fd24_2 <| an @fd40_0 <| an @fd40_1 <| an @fd45_0 <| an @fd45_1 <| an @ok38 <| an @ok40 <| an @ok45 <| an @so22 <| an @st45 <| an @zc40 <| an @zc45 <| @wi64_0a1
theorem ref07_EnergyAt_spec {v1 : Int} {v2 : Int} {v3 : (List (Int × Int × Int × Int × Int))} {v4 : Int} {v5 : Int} {v6 : Int} {v7 : Int} {v8 : Int} (hr : ref07_EnergyAt v1 v2 v3 v4 v5 v6 = some (v7,v8)) : Spec (lim Tryz.prog) 38 [.agg [.v (.int .i64 v1),.v (.int .i64 v2),.list 5 (v3.map e_iiiii)],.agg [.v (.int .i64 v4),.v (.int .i64 v5),.v (.int .i64 v6)]] ⟨[.agg [.v (.int .i64 v7),.v (.int .i64 v8)]],[]⟩:=by
  unfold ref07_EnergyAt at hr
  have T:=an y71 <| @e_iiiii.eq_1
  apply Spec.fn Tryz.func38 rfl
  focus (simp [Tryz.f38]<;>exact rfl)
  focus
    refine wb_ T (g:=?_)
    obtain ⟨⟨v28,v29⟩,h7,hr⟩:=bs hr
    try dsimp only at hr
    refine TX.loopE (step:=ref07_EnergyAt_l1 v3 v4 v5 v6) (x:=(0,0,0)) h7 (fun (v9,v10,v11)=>⟨.junk :: .junk :: .fptr true [.v (.int .i64 v1),.v (.int .i64 v2),.list 5 (v3.map e_iiiii)] 0 :: .fptr true [.v (.int .i64 v4),.v (.int .i64 v5),.v (.int .i64 v6)] 0 :: .lptr 0 0 0 :: .lptr 1 0 0 :: .v (.int .i64 v11) :: .junk :: .junk :: .junk :: .junk :: .junk :: .junk :: .junk :: .junk :: .junk :: .junk :: .junk :: .junk :: .junk :: .junk :: .junk :: .junk :: .junk :: .junk :: .junk :: .junk :: .junk :: .junk :: .junk :: .junk :: .junk :: .junk :: .junk :: .junk :: .junk :: .junk :: .junk :: .junk :: .junk :: .junk :: .junk :: .junk :: .junk :: .junk :: .junk :: .junk :: .junk :: .junk :: .junk :: .junk :: .junk :: .junk :: .junk :: .junk :: [],[.var [.v (.int .i64 0),.v (.int .i64 0)],.var [.v (.int .i64 v9),.v (.int .i64 v10)]]⟩) (fun (v19,v20)=>(.exit 0,⟨.junk :: .junk :: .junk :: .junk :: .lptr 0 0 0 :: .lptr 1 0 0 :: .junk :: .junk :: .junk :: .junk :: .junk :: .junk :: .junk :: .junk :: .junk :: .junk :: .junk :: .junk :: .junk :: .junk :: .junk :: .junk :: .junk :: .junk :: .junk :: .junk :: .junk :: .junk :: .junk :: .junk :: .junk :: .junk :: .junk :: .junk :: .junk :: .junk :: .junk :: .junk :: .junk :: .junk :: .junk :: .junk :: .junk :: .junk :: .junk :: .junk :: .junk :: .junk :: .junk :: .junk :: .junk :: .junk :: .junk :: .junk :: .junk :: [],[.var [.v (.int .i64 0),.v (.int .i64 0)],.var [.v (.int .i64 v19),.v (.int .i64 v20)]]⟩)) ?_ ?_ ?_ ?_
    · rintro ⟨v9,v10,v11⟩ v0 hr
      dsimp only [ref07_EnergyAt_l1] at hr
      try dsimp only
      refine wC T (g:=?_)
      rcases ifs hr with ⟨h4,hr⟩|⟨h4,hr⟩
      · have T:=an h4 T
        refine wA T (g:=?_)
        obtain ⟨⟨v21,v22,v23,v24,v25⟩,h5,hr⟩:=bs hr
        try dsimp only at hr
        have T:=an (gx e_iiiii h5) T
        refine wA T (g:=?_)
        obtain ⟨⟨v26,v27⟩,h6,hr⟩:=bs hr
        try dsimp only at hr
        apply TO.cal (wn T) rfl goFn24 (ref07_Strength_spec h6) rfl rfl rfl
        repeat exact sd T
        refine wA T (g:=?_)
        cases hr
        refine ⟨rfl,?_⟩
        exact wk_ T [some 0,some 1] rfl (rv (rv .nil rfl) rfl)
      · have T:=an h4 T
        refine wa_ T (g:=?_)
        cases hr
        refine ⟨rfl,?_⟩
        exact wk_ T [some 0,some 1] rfl (rv (rv .nil rfl) rfl)
    · intro e h;cases h
    · try dsimp only
      refine wA T (g:=?_)
      cases hr
      refine ⟨.inr rfl,_,(ry T),?_⟩
      exact wr [] rfl .nil
    · try dsimp only
      exact wr [some 0,some 1] rfl (rv (rv .nil rfl) rfl)
  rfl

end Go.Rex

namespace Go.Rex
open Go.Proofs
open Go Go.Rex Go.RowKit
set_option maxRecDepth 100000

end Go.Rex

namespace Go.Rex
open Go.Proofs
open Go Go.Rex Go.RowKit
set_option maxRecDepth 100000
set_option maxHeartbeats 4000000
def y72:=an @ag24 <| an @ag38 <| an @ag45 <| an @ag58 <| an @ar58 <| an @cs24 <| an @cs38 <| an @cs45 <| an @cs58 <| an @eqg45 <| an @eqg58 <| an @eqs45 <| an @eqs58 <| an @ok24 <| an @ok38 <| an @ok45 <| an @ok58 <| an @st45 <| an @st58 <| an @zc45 <| @zc58
theorem law07_ArrayPressures_law {v1 : Int} {v2 : Int} {v3 : (List (Int × Int × Int × Int × Int))} {v4 : Int} {v5 : Int} {v6 : Int} (hr : law07_ArrayPressures v1 v2 v3 v4 v5 v6 = some true) {Fz : Nat → Prop} {h : List Blk} {vs : List Value} (hfz : ∀ n, Fz n → n < h.length) (hargs : VLs Fz h noL [.agg [.v (.int .i64 v1), .v (.int .i64 v2), .list 5 (v3.map e_iiiii)], .agg [.v (.int .i64 v4), .v (.int .i64 v5), .v (.int .i64 v6)]] vs)
    {B lo : Nat} {D : Nat → Prop} {m : NMap} {w : World} {args' : List Value} (hrel : Rel B lo D m h w) (hlo : lo ≤ h.length) (hargs' : VRs D m vs args') : Calls Tryz.prog 5 ⟨args'⟩ w (fun e w'=>e = .returned (.bool true) ∧ Below w.heap.size w w'):=by
  unfold law07_ArrayPressures at hr
  have T:=an y72 <| @e_iiiii.eq_1
  refine law_tex follows awake_true Tryz.func5 rfl (tm0:=.agg [.v (.int .i64 v1),.v (.int .i64 v2),.list 5 (v3.map e_iiiii)] :: .agg [.v (.int .i64 v4),.v (.int .i64 v5),.v (.int .i64 v6)] :: .junk :: .junk :: .junk :: .junk :: .junk :: .junk :: .junk :: .junk :: .junk :: .junk :: .junk :: .junk :: .junk :: .junk :: .junk :: .junk :: .junk :: .junk :: .junk :: .junk :: .junk :: .junk :: .junk :: .junk :: .junk :: .junk :: .junk :: .junk :: .junk :: .junk :: .junk :: .junk :: .junk :: .junk :: .junk :: .junk :: .junk :: .junk :: .junk :: .junk :: .junk :: .junk :: .junk :: .junk :: .junk :: .junk :: .junk :: .junk :: .junk :: .junk :: .junk :: .junk :: .junk :: .junk :: .junk :: .junk :: .junk :: .junk :: .junk :: .junk :: .junk :: .junk :: .junk :: .junk :: .junk :: .junk :: .junk :: .junk :: .junk :: .junk :: .junk :: .junk :: .junk :: .junk :: .junk :: .junk :: .junk :: .junk :: .junk :: .junk :: .junk :: .junk :: .junk :: .junk :: .junk :: .junk :: .junk :: .junk :: .junk :: .junk :: .junk :: .junk :: .junk :: .junk :: .junk :: .junk :: .junk :: .junk :: .junk :: .junk :: .junk :: .junk :: .junk :: .junk :: .junk :: .junk :: .junk :: .junk :: .junk :: .junk :: .junk :: .junk :: .junk :: .junk :: .junk :: .junk :: .junk :: .junk :: .junk :: .junk :: .junk :: .junk :: .junk :: .junk :: .junk :: .junk :: .junk :: .junk :: .junk :: .junk :: .junk :: .junk :: .junk :: .junk :: .junk :: .junk :: .junk :: []) (by simp [Tryz.f5]<;>exact rfl) ?_ hfz hargs hrel hlo hargs'
  refine wb_ T (g:=?_)
  apply TO.cal (wn T) rfl goFn11 Spec.awake rfl rfl rfl
  repeat exact sd T
  refine wa_ T (g:=?_)
  apply TO.pop1 (wn T) (pop_not rfl)
  repeat exact sd T
  refine wA T (g:=?_)
  obtain ⟨v8,h1,hr⟩:=bs hr
  apply TO.cal (wn T) rfl goFn12 (Spec.ov (law07_few_spec h1) (by decide)) rfl rfl rfl
  repeat exact sd T
  refine wa_ T (g:=?_)
  apply TO.pop1 (wn T) (pop_not rfl)
  repeat exact sd T
  refine wa_ T (g:=?_)
  rcases ifs hr with ⟨h2,hr⟩|⟨h2,hr⟩
  · have T:=an h2 T
    refine wA T (g:=?_)
    obtain ⟨⟨v9,v10,v11⟩,h3,hr⟩:=bs hr
    try dsimp only at hr
    apply TD.cal (wn T) rfl goFn14 (Spec.ov (ref07_Copy_spec h3) (by decide)) rfl rfl rfl
    repeat exact sd T
    refine wA T (g:=?_)
    obtain ⟨⟨v12,v13,v14⟩,h4,hr⟩:=bs hr
    try dsimp only at hr
    apply TD.lok (wn T) rfl goFn28 (Spec.ov (array_PressureAt_spec h4) (by decide)) (vw T) rfl rfl (by simp [clTB,cl,e_iiiii,e_i,e_iiiiiiiii,e_z])
    repeat exact sd T
    refine wA T (g:=?_)
    obtain ⟨⟨v15,v16,v17⟩,h5,hr⟩:=bs hr
    try dsimp only at hr
    apply TD.cal (wn T) rfl goFn14 (Spec.ov (ref07_Copy_spec h5) (by decide)) rfl rfl rfl
    repeat exact sd T
    refine wA T (g:=?_)
    obtain ⟨⟨v18,v19,v20,v21,v22⟩,h6,hr⟩:=bs hr
    try dsimp only at hr
    apply TD.lok (wn T) rfl goFn29 (Spec.ov (array_EndsAt_spec h6) (by decide)) (vw T) rfl rfl (by simp [clTB,cl,e_iiiii,e_i,e_iiiiiiiii,e_z])
    repeat exact sd T
    refine wA T (g:=?_)
    obtain ⟨⟨v23,v24,v25⟩,h7,hr⟩:=bs hr
    try dsimp only at hr
    apply TD.cal (wn T) rfl goFn14 (Spec.ov (ref07_Copy_spec h7) (by decide)) rfl rfl rfl
    repeat exact sd T
    refine wA T (g:=?_)
    obtain ⟨⟨v26,v27,v28⟩,h8,hr⟩:=bs hr
    try dsimp only at hr
    apply TD.lok (wn T) rfl goFn30 (Spec.ov (array_SizeAt_spec h8) (by decide)) (vw T) rfl rfl (by simp [clTB,cl,e_iiiii,e_i,e_iiiiiiiii,e_z])
    repeat exact sd T
    refine wA T (g:=?_)
    obtain ⟨⟨v29,v30,v31⟩,h9,hr⟩:=bs hr
    try dsimp only at hr
    apply TD.cal (wn T) rfl goFn14 (Spec.ov (ref07_Copy_spec h9) (by decide)) rfl rfl rfl
    repeat exact sd T
    refine wA T (g:=?_)
    obtain ⟨⟨v32,v33,v34⟩,h10,hr⟩:=bs hr
    try dsimp only at hr
    apply TD.lok (wn T) rfl goFn31 (Spec.ov (array_EnergyAt_spec h10) (by decide)) (vw T) rfl rfl (by simp [clTB,cl,e_iiiii,e_i,e_iiiiiiiii,e_z])
    repeat exact sd T
    refine wA T (g:=?_)
    obtain ⟨v35,h11,hr⟩:=bs hr
    apply TO.cal (wn T) rfl goFn32 (Spec.ov (law07_arrayErr_spec h11) (by decide)) rfl rfl rfl
    repeat exact sd T
    refine wa_ T (g:=?_)
    rcases ifs hr with ⟨h12,hr⟩|⟨h12,hr⟩
    · have T:=an h12 T
      refine wa_ T (g:=?_)
      rcases ifs hr with ⟨h13,hr⟩|⟨h13,hr⟩
      · have T:=an h13 T
        refine wa_ T (g:=?_)
        rcases ifs hr with ⟨h14,hr⟩|⟨h14,hr⟩
        · have T:=an h14 T
          refine wa_ T (g:=?_)
          rcases ifs hr with ⟨h15,hr⟩|⟨h15,hr⟩
          · have T:=an h15 T
            refine wa_ T (g:=?_)
            rcases ifs hr with ⟨h16,hr⟩|⟨h16,hr⟩
            · have T:=an h16 T
              refine wa_ T (g:=?_)
              obtain ⟨v36,h17,hr⟩:=bs hr
              apply TO.cal (wn T) rfl goFn33 (Spec.ov (base_SameBits_spec h17) (by decide)) rfl rfl rfl
              repeat exact sd T
              refine wa_ T (g:=?_)
              rcases ifs hr with ⟨h18,hr⟩|⟨h18,hr⟩
              · have T:=an h18 T
                refine wA T (g:=?_)
                apply TO.pop1 (wn T) (pop_eqs1 (X:=⟨[.int .i64 (v18),.int .i64 (v19),.int .i64 (v20),.int .i64 (v21)]⟩) (Y:=⟨[.int .i64 (0),.int .i64 (0),.int .i64 (0),.int .i64 (0)]⟩) rfl rfl rfl rfl rfl rfl rfl eqg58 eqs58 rfl)
                repeat exact sd T
                refine wa_ T (g:=?_)
                rcases ifs hr with ⟨h19,hr⟩|⟨h19,hr⟩
                · have T:=an h19 T
                  refine wA T (g:=?_)
                  apply TO.pop1 (wn T) (pop_eqs1 (X:=⟨[.int .i64 (v26),.int .i64 (v27)]⟩) (Y:=⟨[.int .i64 (0),.int .i64 (0)]⟩) rfl rfl rfl rfl rfl rfl rfl eqg45 eqs45 rfl)
                  repeat exact sd T
                  refine wa_ T (g:=?_)
                  rcases ifs hr with ⟨h20,hr⟩|⟨h20,hr⟩
                  · have T:=an h20 T
                    refine wA T (g:=?_)
                    apply TO.pop1 (wn T) (pop_eqs1 (X:=⟨[.int .i64 (v32),.int .i64 (v33)]⟩) (Y:=⟨[.int .i64 (0),.int .i64 (0)]⟩) rfl rfl rfl rfl rfl rfl rfl eqg45 eqs45 rfl)
                    repeat exact sd T
                    refine wa_ T (g:=?_)
                    exact lv T hr
                  · have T:=an h20 T
                    refine wa_ T (g:=?_)
                    exact lv T hr
                · have T:=an h19 T
                  refine wa_ T (g:=?_)
                  exact lv T hr
              · have T:=an h18 T
                refine wa_ T (g:=?_)
                exact lv T hr
            · have T:=an h16 T
              refine wa_ T (g:=?_)
              exact lv T hr
          · have T:=an h15 T
            refine wa_ T (g:=?_)
            exact lv T hr
        · have T:=an h14 T
          refine wa_ T (g:=?_)
          exact lv T hr
      · have T:=an h13 T
        refine wa_ T (g:=?_)
        exact lv T hr
    · have T:=an h12 T
      refine wA T (g:=?_)
      obtain ⟨⟨v37,v38⟩,h21,hr⟩:=bs hr
      try dsimp only at hr
      apply TO.cal (wn T) rfl goFn34 (Spec.ov (ref07_PressureAt_spec h21) (by decide)) rfl rfl rfl
      repeat exact sd T
      refine wa_ T (g:=?_)
      rcases ifs hr with ⟨h22,hr⟩|⟨h22,hr⟩
      · have T:=an h22 T
        refine wa_ T (g:=?_)
        obtain ⟨⟨v39,v40⟩,h23,hr⟩:=bs hr
        try dsimp only at hr
        apply TD.cal (wn T) rfl goFn35 (Spec.ov (base_Num_spec h23) (by decide)) rfl rfl rfl
        repeat exact sd T
        refine wa_ T (g:=?_)
        obtain ⟨v41,h24,hr⟩:=bs hr
        apply TD.cal (wn T) rfl goFn33 (Spec.ov (base_SameBits_spec h24) (by decide)) rfl rfl rfl
        repeat exact sd T
        refine wa_ T (g:=?_)
        rcases ifs hr with ⟨h25,hr⟩|⟨h25,hr⟩
        · have T:=an h25 T
          refine wa_ T (g:=?_)
          rcases ifs hr with ⟨h26,hr⟩|⟨h26,hr⟩
          · have T:=an h26 T
            refine wA T (g:=?_)
            obtain ⟨⟨v42,v43,v44,v45⟩,h27,hr⟩:=bs hr
            try dsimp only at hr
            apply TD.cal (wn T) rfl goFn36 (Spec.ov (ref07_EndsAt_spec h27) (by decide)) rfl rfl rfl
            repeat exact sd T
            refine wa_ T (g:=?_)
            apply TD.pop1 (wn T) (pop_eqs1 (X:=⟨[.int .i64 (v18),.int .i64 (v19),.int .i64 (v20),.int .i64 (v21)]⟩) (Y:=⟨[.int .i64 (v42),.int .i64 (v43),.int .i64 (v44),.int .i64 (v45)]⟩) rfl rfl rfl rfl rfl rfl rfl eqg58 eqs58 rfl)
            repeat exact sd T
            refine wa_ T (g:=?_)
            rcases ifs hr with ⟨h28,hr⟩|⟨h28,hr⟩
            · have T:=an h28 T
              refine wa_ T (g:=?_)
              rcases ifs hr with ⟨h29,hr⟩|⟨h29,hr⟩
              · have T:=an h29 T
                refine wA T (g:=?_)
                obtain ⟨⟨v46,v47⟩,h30,hr⟩:=bs hr
                try dsimp only at hr
                apply TD.cal (wn T) rfl goFn37 (Spec.ov (ref07_SizeAt_spec h30) (by decide)) rfl rfl rfl
                repeat exact sd T
                refine wa_ T (g:=?_)
                apply TD.pop1 (wn T) (pop_eqs1 (X:=⟨[.int .i64 (v26),.int .i64 (v27)]⟩) (Y:=⟨[.int .i64 (v46),.int .i64 (v47)]⟩) rfl rfl rfl rfl rfl rfl rfl eqg45 eqs45 rfl)
                repeat exact sd T
                refine wa_ T (g:=?_)
                rcases ifs hr with ⟨h31,hr⟩|⟨h31,hr⟩
                · have T:=an h31 T
                  refine wa_ T (g:=?_)
                  rcases ifs hr with ⟨h32,hr⟩|⟨h32,hr⟩
                  · have T:=an h32 T
                    refine wA T (g:=?_)
                    obtain ⟨⟨v48,v49⟩,h33,hr⟩:=bs hr
                    try dsimp only at hr
                    apply TD.cal (wn T) rfl goFn38 (Spec.ov (ref07_EnergyAt_spec h33) (by decide)) rfl rfl rfl
                    repeat exact sd T
                    refine wa_ T (g:=?_)
                    apply TD.pop1 (wn T) (pop_eqs1 (X:=⟨[.int .i64 (v32),.int .i64 (v33)]⟩) (Y:=⟨[.int .i64 (v48),.int .i64 (v49)]⟩) rfl rfl rfl rfl rfl rfl rfl eqg45 eqs45 rfl)
                    repeat exact sd T
                    refine wa_ T (g:=?_)
                    exact lv T hr
                  · have T:=an h32 T
                    refine wa_ T (g:=?_)
                    exact lv T hr
                · have T:=an h31 T
                  refine wa_ T (g:=?_)
                  exact lv T hr
              · have T:=an h29 T
                refine wa_ T (g:=?_)
                exact lv T hr
            · have T:=an h28 T
              refine wa_ T (g:=?_)
              exact lv T hr
          · have T:=an h26 T
            refine wa_ T (g:=?_)
            exact lv T hr
        · have T:=an h25 T
          refine wa_ T (g:=?_)
          exact lv T hr
      · have T:=an h22 T
        refine wa_ T (g:=?_)
        exact lv T hr
  · have T:=an h2 T
    refine wa_ T (g:=?_)
    exact lv T hr

end Go.Rex
