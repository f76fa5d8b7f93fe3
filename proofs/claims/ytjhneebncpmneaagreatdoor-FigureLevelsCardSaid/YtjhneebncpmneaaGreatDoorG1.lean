/- Proofs that the program's functions do what these plain functions say. -/
import Derived.Test.YtjhneebncpmneaaGreatDoorGB
import Derived.Test.YtjhneebncpmneaaGreatDoorS
import Derived.Test.YtjhneebncpmneaaGreatDoorCZ
set_option linter.unusedSimpArgs false
set_option linter.unusedVariables false
set_option linter.defProp false
namespace Go.Rex
open Go.Proofs
open Go Go.Rex Go.RowKit
set_option maxRecDepth 100000
set_option maxHeartbeats 200000
theorem figure_refuse_spec {v1 : Bool} {v2 : Int} {v3 : Int} (hr : figure_refuse v1 v2 = some (v3)) : Spec (lim Tryz.prog) 96 [.v (.bool v1),.v (.int .i64 v2)] ⟨[.v (.int .i64 v3)],[]⟩:=by
  unfold figure_refuse at hr
  have T:=trivial
  apply Spec.fn Tryz.func96 rfl
  focus (simp [Tryz.f96]<;>exact rfl)
  focus
    refine wa_ T (g:=?_)
    rcases ifs hr with ⟨h1,hr⟩|⟨h1,hr⟩
    · have T:=an h1 T
      refine wa_ T (g:=?_)
      cases hr
      refine ⟨.inr rfl,_,(ry T),?_⟩
      exact wk_ T [] rfl .nil
    · have T:=an h1 T
      refine wa_ T (g:=?_)
      cases hr
      refine ⟨.inr rfl,_,(ry T),?_⟩
      exact wk_ T [] rfl .nil
  rfl

end Go.Rex

namespace Go.Rex
open Go.Proofs
open Go Go.Rex Go.RowKit
set_option maxRecDepth 100000
set_option maxHeartbeats 200000
theorem figure_within_spec {v1 : Int} {v2 : Int} {v3 : Int} {v4 : Int} (hr : figure_within v1 v2 v3 = some (v4)) : Spec (lim Tryz.prog) 63 [.v (.int .i64 v1),.v (.int .i64 v2),.v (.int .i64 v3)] ⟨[.v (.int .i64 v4)],[]⟩:=by
  unfold figure_within at hr
  have T:=trivial
  apply Spec.fn Tryz.func63 rfl
  focus (simp [Tryz.f63]<;>exact rfl)
  focus
    refine wa_ T (g:=?_)
    rcases ifs hr with ⟨h1,hr⟩|⟨h1,hr⟩
    · have T:=an h1 T
      refine wa_ T (g:=?_)
      obtain ⟨v5,h2,hr⟩:=bs hr
      apply TO.cal (wn T) rfl goFn96 (figure_refuse_spec h2) rfl rfl rfl
      repeat exact sd T
      refine wa_ T (g:=?_)
      cases hr
      refine ⟨.inr rfl,_,(ry T),?_⟩
      exact wk_ T [] rfl .nil
    · have T:=an h1 T
      refine wa_ T (g:=?_)
      obtain ⟨v6,h3,hr⟩:=bs hr
      apply TO.cal (wn T) rfl goFn96 (figure_refuse_spec h3) rfl rfl rfl
      repeat exact sd T
      refine wa_ T (g:=?_)
      cases hr
      refine ⟨.inr rfl,_,(ry T),?_⟩
      exact wk_ T [] rfl .nil
  rfl

end Go.Rex

namespace Go.Rex
open Go.Proofs
open Go Go.Rex Go.RowKit
set_option maxRecDepth 100000
set_option maxHeartbeats 200000
def y1:=an @ag31 <| an @cs31 <| an @ok31 <| an @so149 <| @wi64_0a1
theorem figure_firstError_spec {v1 : (List Int)} {v2 : Int} (hr : figure_firstError v1 = some (v2)) : Spec (lim Tryz.prog) 54 [.list 1 (v1.map e_i)] ⟨[.v (.int .i64 v2)],[]⟩:=by
  unfold figure_firstError at hr
  have T:=an y1 <| @e_i.eq_1
  apply Spec.fn Tryz.func54 rfl
  focus (simp [Tryz.f54]<;>exact rfl)
  focus
    refine wc_ T (g:=?_)
    obtain ⟨v7,h7,hr⟩:=bs hr
    refine TX.loopE (step:=figure_firstError_l1 v1) (x:=0) h7 (fun v3=>⟨.junk :: .junk :: .junk :: .junk :: .junk :: .list 1 (v1.map e_i) :: .v (.int .i64 (v1.length : Int)) :: .v (.int .i64 v3) :: .junk :: .junk :: .junk :: .junk :: .junk :: .junk :: .junk :: [],[]⟩) (fun e=>match e with|(.inl v5)=>(.ret,⟨.junk :: .junk :: .v (.int .i64 v5) :: .junk :: .junk :: .junk :: .junk :: .junk :: .junk :: .junk :: .junk :: .junk :: .junk :: .junk :: .junk :: [],[]⟩)|(.inr _)=>(.exit 0,⟨.junk :: .junk :: .junk :: .junk :: .junk :: .junk :: .junk :: .junk :: .junk :: .junk :: .junk :: .junk :: .junk :: .junk :: .junk :: [],[]⟩)) ?_ ?_ ?_ ?_
    · rintro v3 v0 hr
      dsimp only [figure_firstError_l1] at hr
      try dsimp only
      refine wa_ T (g:=?_)
      rcases ifs hr with ⟨h4,hr⟩|⟨h4,hr⟩
      · have T:=an h4 T
        refine wa_ T (g:=?_)
        obtain ⟨v6,h5,hr⟩:=bs hr
        have T:=an (gx e_i h5) T
        refine wA T (g:=?_)
        rcases ifs hr with ⟨h6,hr⟩|⟨h6,hr⟩
        · have T:=an h6 T
          refine wa_ T (g:=?_)
          cases hr
          refine ⟨rfl,?_⟩
          exact wk_ T [] rfl .nil
        · have T:=an h6 T
          refine wa_ T (g:=?_)
          cases hr
          refine ⟨rfl,?_⟩
          exact wk_ T [] rfl .nil
      · have T:=an h4 T
        refine wa_ T (g:=?_)
        cases hr
        refine ⟨rfl,?_⟩
        exact wk_ T [] rfl .nil
    · intro e h;rcases e with _|e<;>cases h
    · try dsimp only
      rcases v7 with v8|_
      · try dsimp only at hr
        try dsimp only
        refine wa_ T (g:=?_)
        cases hr
        refine ⟨.inr rfl,_,(ry T),?_⟩
        exact wr [] rfl .nil
      · try dsimp only at hr
        try dsimp only
        refine wa_ T (g:=?_)
        cases hr
        refine ⟨.inr rfl,_,(ry T),?_⟩
        exact wr [] rfl .nil
    · try dsimp only
      exact wr [] rfl .nil
  rfl

end Go.Rex

namespace Go.Rex
open Go.Proofs
open Go Go.Rex Go.RowKit
set_option maxRecDepth 100000
set_option maxHeartbeats 200000
theorem figure_modulo_spec {v1 : Int} {v2 : Int} {v3 : Int} (hr : figure_modulo v1 v2 = some (v3)) : Spec (lim Tryz.prog) 142 [.v (.int .i64 v1),.v (.int .i64 v2)] ⟨[.v (.int .i64 v3)],[]⟩:=by
  unfold figure_modulo at hr
  have T:=trivial
  apply Spec.fn Tryz.func142 rfl
  focus (simp [Tryz.f142]<;>exact rfl)
  focus
    refine wa_ T (g:=?_)
    by_cases h1 : v2 = 0
    · rw [if_pos h1] at hr
      cases hr
    · rw [if_neg h1] at hr
      have T:=an h1 T
      refine wa_ T (g:=?_)
      cases hr
      refine ⟨.inr rfl,_,(ry T),?_⟩
      exact wr [] rfl .nil
  rfl

end Go.Rex

namespace Go.Rex
open Go.Proofs
open Go Go.Rex Go.RowKit
set_option maxRecDepth 100000
set_option maxHeartbeats 200000
def y2:=an @ag100 <| an @cs100 <| an @ok100 <| an @st100 <| an @st30 <| an @zc100 <| @zc30
theorem figure_between_spec {v1 : Int} {v2 : Int} {v3 : Int} {v4 : Int} (hr : figure_between v1 v2 = some (v3,v4)) : Spec (lim Tryz.prog) 114 [.v (.int .i64 v1),.v (.int .i64 v2)] ⟨[.agg [.v (.int .i64 v3),.v (.int .i64 v4)]],[]⟩:=by
  unfold figure_between at hr
  have T:=y2
  apply Spec.fn Tryz.func114 rfl
  focus (simp [Tryz.f114]<;>exact rfl)
  focus
    refine wa_ T (g:=?_)
    cases hr
    refine ⟨.inr rfl,_,(ry T),?_⟩
    exact wr [] rfl .nil
  rfl

end Go.Rex

namespace Go.Rex
open Go.Proofs
open Go Go.Rex Go.RowKit
set_option maxRecDepth 100000
set_option maxHeartbeats 200000
def y3:=an @wi64_0a1 <| @wi64_1m10
theorem figure_tenTo_spec {v1 : Int} {v2 : Int} (hr : figure_tenTo v1 = some (v2)) : Spec (lim Tryz.prog) 138 [.v (.int .i64 v1)] ⟨[.v (.int .i64 v2)],[]⟩:=by
  unfold figure_tenTo at hr
  have T:=y3
  apply Spec.fn Tryz.func138 rfl
  focus (simp [Tryz.f138]<;>exact rfl)
  focus
    refine wa_ T (g:=?_)
    obtain ⟨v6,h3,hr⟩:=bs hr
    refine TX.loopE (step:=figure_tenTo_l1 v1) (x:=(1,0)) h3 (fun (v3,v4)=>⟨[.junk,.junk,.junk,.v (.int .i64 v3),.v (.int .i64 v1),.v (.int .i64 v4),.junk,.junk,.junk,.junk,.junk],[]⟩) (fun v5=>(.exit 0,⟨[.junk,.junk,.junk,.v (.int .i64 v5),.junk,.junk,.junk,.junk,.junk,.junk,.junk],[]⟩)) ?_ ?_ ?_ ?_
    · rintro ⟨v3,v4⟩ v0 hr
      dsimp only [figure_tenTo_l1] at hr
      try dsimp only
      refine wa_ T (g:=?_)
      rcases ifs hr with ⟨h2,hr⟩|⟨h2,hr⟩
      · have T:=an h2 T
        refine wa_ T (g:=?_)
        cases hr
        refine ⟨rfl,?_⟩
        exact wk_ T [] rfl .nil
      · have T:=an h2 T
        refine wa_ T (g:=?_)
        cases hr
        refine ⟨rfl,?_⟩
        exact wk_ T [] rfl .nil
    · intro e h;cases h
    · try dsimp only
      refine wa_ T (g:=?_)
      cases hr
      refine ⟨.inr rfl,_,(ry T),?_⟩
      exact wr [] rfl .nil
    · try dsimp only
      exact wr [] rfl .nil
  rfl

end Go.Rex

namespace Go.Rex
open Go.Proofs
open Go Go.Rex Go.RowKit
set_option maxRecDepth 100000
set_option maxHeartbeats 200000
def y4:=an @ag100 <| an @ag3 <| an @cs100 <| an @fd100_0 <| an @fd30_0 <| an @fd30_1 <| an @ok100 <| @zc100
theorem figure_ends_times_spec {v1 : Int} {v2 : Int} {v3 : Int} {v4 : Int} {v5 : Int} (hr : figure_ends_times v1 v2 v3 = some (v4,v5)) : Spec (lim Tryz.prog) 100 [.agg [.v (.int .i64 v1),.v (.int .i64 v2)],.v (.int .i64 v3)] ⟨[.agg [.v (.int .i64 v4),.v (.int .i64 v5)]],[]⟩:=by
  unfold figure_ends_times at hr
  have T:=y4
  apply Spec.fn Tryz.func100 rfl
  focus (simp [Tryz.f100]<;>exact rfl)
  focus
    refine wB T (g:=?_)
    obtain ⟨⟨v6,v7⟩,h1,hr⟩:=bs hr
    try dsimp only at hr
    apply TO.cal (wn T) rfl goFn114 (figure_between_spec h1) rfl rfl rfl
    repeat exact sd T
    refine wa_ T (g:=?_)
    cases hr
    refine ⟨.inr rfl,_,(ry T),?_⟩
    exact wr [] rfl .nil
  rfl

end Go.Rex

namespace Go.Rex
open Go.Proofs
open Go Go.Rex Go.RowKit
set_option maxRecDepth 100000
set_option maxHeartbeats 1000000
def y5:=an @ag100 <| an @ag3 <| an @ar186 <| an @cs100 <| an @cs3 <| an @fd100_0 <| an @fd30_1 <| an @ok100 <| an @ok3 <| an @so186 <| @zc100
theorem figure_powerOf_spec {v1 : Int} {v2 : Int} {v3 : Int} {v4 : Int} (hr : figure_powerOf v1 = some (v2,v3,v4)) : Spec (lim Tryz.prog) 105 [.v (.int .i64 v1)] ⟨[.tuple [.agg [.v (.int .i64 v2),.v (.int .i64 v3)],.v (.int .i64 v4)]],[]⟩:=by
  unfold figure_powerOf at hr
  have T:=an y5 <| @e_i.eq_1
  apply Spec.fn Tryz.func105 rfl
  focus (simp [Tryz.f105]<;>exact rfl)
  focus
    refine wa_ T (g:=?_)
    obtain ⟨v5,h1,hr⟩:=bs hr
    apply TO.cal (wn T) rfl goFn142 (figure_modulo_spec h1) rfl rfl rfl
    repeat exact sd T
    refine wa_ T (g:=?_)
    obtain ⟨v6,h2,hr⟩:=bs hr
    have h2l:=getI_lt h2
    refine wa_ T (g:=?_)
    have T:=an h2l T
    apply TD.pop1 (wn T) (iaP (xs:=([1000000000,1258925411,1584893192,1995262314,2511886431,3162277660,3981071705,5011872336,6309573444,7943282347] : List Int)) h2 rfl rfl so186 ar186 rfl ok3 cs3)
    repeat exact sd T
    refine wa_ T (g:=?_)
    apply TD.ld (wn T) rfl (ldf_ok (p:=.v (.int .i64 v6)) (fo:=0) (f:=e_i) (xs:=([1000000000,1258925411,1584893192,1995262314,2511886431,3162277660,3981071705,5011872336,6309573444,7943282347] : List Int)) h2 rfl (fun _=>rfl) rfl (by simp only [partT,zz,y5,e_i,Nat.reduceAdd,Nat.reduceMul,Nat.reduceLeDiff,Nat.reduceEqDiff,h2l]<;>exact rfl))
    repeat exact sd T
    refine wa_ T (g:=?_)
    apply TD.pop1 (wn T) (iaP (xs:=([1000000000,1258925411,1584893192,1995262314,2511886431,3162277660,3981071705,5011872336,6309573444,7943282347] : List Int)) h2 rfl rfl so186 ar186 rfl ok3 cs3)
    repeat exact sd T
    refine wa_ T (g:=?_)
    apply TD.ld (wn T) rfl (ldf_ok (p:=.v (.int .i64 v6)) (fo:=0) (f:=e_i) (xs:=([1000000000,1258925411,1584893192,1995262314,2511886431,3162277660,3981071705,5011872336,6309573444,7943282347] : List Int)) h2 rfl (fun _=>rfl) rfl (by simp only [partT,zz,y5,e_i,Nat.reduceAdd,Nat.reduceMul,Nat.reduceLeDiff,Nat.reduceEqDiff,h2l]<;>exact rfl))
    repeat exact sd T
    refine wa_ T (g:=?_)
    obtain ⟨⟨v7,v8⟩,h3,hr⟩:=bs hr
    try dsimp only at hr
    apply TD.cal (wn T) rfl goFn114 (figure_between_spec h3) rfl rfl rfl
    repeat exact sd T
    refine wa_ T (g:=?_)
    rcases ifs hr with ⟨h4,hr⟩|⟨h4,hr⟩
    · have T:=an h4 T
      refine wA T (g:=?_)
      apply TD.pop1 (wn T) (pop_max rfl rfl)
      repeat exact sd T
      refine wa_ T (g:=?_)
      obtain ⟨v9,h5,hr⟩:=bs hr
      apply TD.cal (wn T) rfl goFn138 (figure_tenTo_spec h5) rfl rfl rfl
      repeat exact sd T
      refine wa_ T (g:=?_)
      obtain ⟨⟨v10,v11⟩,h6,hr⟩:=bs hr
      try dsimp only at hr
      apply TD.cal (wn T) rfl goFn100 (figure_ends_times_spec h6) rfl rfl rfl
      repeat exact sd T
      refine wa_ T (g:=?_)
      apply TD.pop1 (wn T) (pop_neg rfl)
      repeat exact sd T
      refine wa_ T (g:=?_)
      apply TD.pop1 (wn T) (pop_max rfl rfl)
      repeat exact sd T
      refine wa_ T (g:=?_)
      obtain ⟨v12,h7,hr⟩:=bs hr
      apply TD.cal (wn T) rfl goFn138 (figure_tenTo_spec h7) rfl rfl rfl
      repeat exact sd T
      refine wa_ T (g:=?_)
      cases hr
      refine ⟨.inr rfl,_,(ry T),?_⟩
      exact wk_ T [] rfl .nil
    · have T:=an h4 T
      refine wA T (g:=?_)
      apply TD.pop1 (wn T) (pop_max rfl rfl)
      repeat exact sd T
      refine wa_ T (g:=?_)
      obtain ⟨v13,h8,hr⟩:=bs hr
      apply TD.cal (wn T) rfl goFn138 (figure_tenTo_spec h8) rfl rfl rfl
      repeat exact sd T
      refine wa_ T (g:=?_)
      obtain ⟨⟨v14,v15⟩,h9,hr⟩:=bs hr
      try dsimp only at hr
      apply TD.cal (wn T) rfl goFn100 (figure_ends_times_spec h9) rfl rfl rfl
      repeat exact sd T
      refine wa_ T (g:=?_)
      apply TD.pop1 (wn T) (pop_neg rfl)
      repeat exact sd T
      refine wa_ T (g:=?_)
      apply TD.pop1 (wn T) (pop_max rfl rfl)
      repeat exact sd T
      refine wa_ T (g:=?_)
      obtain ⟨v16,h10,hr⟩:=bs hr
      apply TD.cal (wn T) rfl goFn138 (figure_tenTo_spec h10) rfl rfl rfl
      repeat exact sd T
      refine wa_ T (g:=?_)
      cases hr
      refine ⟨.inr rfl,_,(ry T),?_⟩
      exact wk_ T [] rfl .nil
  rfl

end Go.Rex

namespace Go.Rex
open Go.Proofs
open Go Go.Rex Go.RowKit
set_option maxRecDepth 100000
set_option maxHeartbeats 200000
theorem math_bits_Mul64_spec {v1 : Int} {v2 : Int} {v3 : Int} {v4 : Int} (hr : math_bits_Mul64 v1 v2 = some (v3,v4)) : Spec (lim Tryz.prog) 143 [.v (.int .u64 v1),.v (.int .u64 v2)] ⟨[.tuple [.v (.int .u64 v3),.v (.int .u64 v4)]],[]⟩:=by
  unfold math_bits_Mul64 at hr
  have T:=trivial
  apply Spec.fn Tryz.func143 rfl
  focus (simp [Tryz.f143]<;>exact rfl)
  focus
    refine wa_ T (g:=?_)
    apply TO.pop1 (wn T) (pop_bits rfl rfl (by decide))
    repeat exact sd T
    refine wa_ T (g:=?_)
    obtain ⟨v5,h1,hr⟩:=bs hr
    apply TO.pop1 (wn T) (pop_shift rfl rfl (by decide) (h1))
    repeat exact sd T
    refine wa_ T (g:=?_)
    apply TO.pop1 (wn T) (pop_bits rfl rfl (by decide))
    repeat exact sd T
    refine wa_ T (g:=?_)
    obtain ⟨v6,h2,hr⟩:=bs hr
    apply TO.pop1 (wn T) (pop_shift rfl rfl (by decide) (h2))
    repeat exact sd T
    refine wa_ T (g:=?_)
    obtain ⟨v7,h3,hr⟩:=bs hr
    apply TO.pop1 (wn T) (pop_shift rfl rfl (by decide) (h3))
    repeat exact sd T
    refine wa_ T (g:=?_)
    apply TO.pop1 (wn T) (pop_bits rfl rfl (by decide))
    repeat exact sd T
    refine wa_ T (g:=?_)
    obtain ⟨v8,h4,hr⟩:=bs hr
    apply TO.pop1 (wn T) (pop_shift rfl rfl (by decide) (h4))
    repeat exact sd T
    refine wa_ T (g:=?_)
    obtain ⟨v9,h5,hr⟩:=bs hr
    apply TO.pop1 (wn T) (pop_shift rfl rfl (by decide) (h5))
    repeat exact sd T
    refine wa_ T (g:=?_)
    cases hr
    refine ⟨.inr rfl,_,(ry T),?_⟩
    exact wr [] rfl .nil
  rfl

end Go.Rex

namespace Go.Rex
open Go.Proofs
open Go Go.Rex Go.RowKit
set_option maxRecDepth 100000
set_option maxHeartbeats 200000
def y6:=an @ag162 <| an @cs162 <| an @ok162 <| an @st162 <| an @un122 <| an @un3 <| @zc162
theorem figure_product_spec {v1 : Int} {v2 : Int} {v3 : Int} {v4 : Int} (hr : figure_product v1 v2 = some (v3,v4)) : Spec (lim Tryz.prog) 106 [.v (.int .i64 v1),.v (.int .i64 v2)] ⟨[.agg [.v (.int .u64 v3),.v (.int .u64 v4)]],[]⟩:=by
  unfold figure_product at hr
  have T:=y6
  apply Spec.fn Tryz.func106 rfl
  focus (simp [Tryz.f106]<;>exact rfl)
  focus
    refine wa_ T (g:=?_)
    apply TO.pop1 (wn T) (cvt_int_int un3 un122 rfl)
    repeat exact sd T
    refine wa_ T (g:=?_)
    apply TO.pop1 (wn T) (cvt_int_int un3 un122 rfl)
    repeat exact sd T
    refine wa_ T (g:=?_)
    obtain ⟨⟨v5,v6⟩,h1,hr⟩:=bs hr
    try dsimp only at hr
    apply TO.cal (wn T) rfl goFn143 (math_bits_Mul64_spec h1) rfl rfl rfl
    repeat exact sd T
    refine wa_ T (g:=?_)
    cases hr
    refine ⟨.inr rfl,_,(ry T),?_⟩
    exact wr [] rfl .nil
  rfl

end Go.Rex

namespace Go.Rex
open Go.Proofs
open Go Go.Rex Go.RowKit
set_option maxRecDepth 100000
set_option maxHeartbeats 200000
def y7:=an @ag122 <| an @fd162_0 <| @fd162_1
theorem figure_wide_isAtMost_spec {v1 : Int} {v2 : Int} {v3 : Int} {v4 : Int} {v5 : Bool} (hr : figure_wide_isAtMost v1 v2 v3 v4 = some (v5)) : Spec (lim Tryz.prog) 107 [.agg [.v (.int .u64 v1),.v (.int .u64 v2)],.agg [.v (.int .u64 v3),.v (.int .u64 v4)]] ⟨[.v (.bool v5)],[]⟩:=by
  unfold figure_wide_isAtMost at hr
  have T:=y7
  apply Spec.fn Tryz.func107 rfl
  focus (simp [Tryz.f107]<;>exact rfl)
  focus
    refine wB T (g:=?_)
    rcases ifs hr with ⟨h1,hr⟩|⟨h1,hr⟩
    · have T:=an h1 T
      refine wa_ T (g:=?_)
      cases hr
      refine ⟨.inr rfl,_,(ry T),?_⟩
      exact wk_ T [] rfl .nil
    · have T:=an h1 T
      refine wA T (g:=?_)
      rcases ifs hr with ⟨h2,hr⟩|⟨h2,hr⟩
      · have T:=an h2 T
        refine wA T (g:=?_)
        cases hr
        refine ⟨.inr rfl,_,(ry T),?_⟩
        exact wk_ T [] rfl .nil
      · have T:=an h2 T
        refine wa_ T (g:=?_)
        cases hr
        refine ⟨.inr rfl,_,(ry T),?_⟩
        exact wk_ T [] rfl .nil
  rfl

end Go.Rex

namespace Go.Rex
open Go.Proofs
open Go Go.Rex Go.RowKit
set_option maxRecDepth 100000
set_option maxHeartbeats 200000
def y8:=an @ag3 <| an @cs100 <| an @fd100_0 <| an @fd112_0 <| an @fd112_1 <| an @fd30_1 <| an @ok100 <| @zc100
theorem figure_quotient_reaches_spec {v1 : Int} {v2 : Int} {v3 : Int} {v4 : Bool} (hr : figure_quotient_reaches v1 v2 v3 = some (v4)) : Spec (lim Tryz.prog) 64 [.agg [.v (.int .i64 v1),.v (.int .i64 v2)],.v (.int .i64 v3)] ⟨[.v (.bool v4)],[]⟩:=by
  unfold figure_quotient_reaches at hr
  have T:=y8
  apply Spec.fn Tryz.func64 rfl
  focus (simp [Tryz.f64]<;>exact rfl)
  focus
    refine wb_ T (g:=?_)
    obtain ⟨⟨v5,v6,v7⟩,h1,hr⟩:=bs hr
    try dsimp only at hr
    apply TO.cal (wn T) rfl goFn105 (figure_powerOf_spec h1) rfl rfl rfl
    repeat exact sd T
    refine wA T (g:=?_)
    obtain ⟨⟨v8,v9⟩,h2,hr⟩:=bs hr
    try dsimp only at hr
    apply TD.cal (wn T) rfl goFn106 (figure_product_spec h2) rfl rfl rfl
    repeat exact sd T
    refine wA T (g:=?_)
    obtain ⟨⟨v10,v11⟩,h3,hr⟩:=bs hr
    try dsimp only at hr
    apply TD.cal (wn T) rfl goFn106 (figure_product_spec h3) rfl rfl rfl
    repeat exact sd T
    refine wa_ T (g:=?_)
    obtain ⟨v12,h4,hr⟩:=bs hr
    apply TD.cal (wn T) rfl goFn107 (figure_wide_isAtMost_spec h4) rfl rfl rfl
    repeat exact sd T
    refine wa_ T (g:=?_)
    cases hr
    refine ⟨.inr rfl,_,(ry T),?_⟩
    exact wr [] rfl .nil
  rfl

end Go.Rex

namespace Go.Rex
open Go.Proofs
open Go Go.Rex Go.RowKit
set_option maxRecDepth 100000
set_option maxHeartbeats 200000
def y9:=an @ag3 <| an @cs100 <| an @fd100_0 <| an @fd112_0 <| an @fd112_1 <| an @fd30_0 <| an @ok100 <| @zc100
theorem figure_quotient_keepsTo_spec {v1 : Int} {v2 : Int} {v3 : Int} {v4 : Bool} (hr : figure_quotient_keepsTo v1 v2 v3 = some (v4)) : Spec (lim Tryz.prog) 65 [.agg [.v (.int .i64 v1),.v (.int .i64 v2)],.v (.int .i64 v3)] ⟨[.v (.bool v4)],[]⟩:=by
  unfold figure_quotient_keepsTo at hr
  have T:=y9
  apply Spec.fn Tryz.func65 rfl
  focus (simp [Tryz.f65]<;>exact rfl)
  focus
    refine wb_ T (g:=?_)
    obtain ⟨⟨v5,v6,v7⟩,h1,hr⟩:=bs hr
    try dsimp only at hr
    apply TO.cal (wn T) rfl goFn105 (figure_powerOf_spec h1) rfl rfl rfl
    repeat exact sd T
    refine wA T (g:=?_)
    obtain ⟨⟨v8,v9⟩,h2,hr⟩:=bs hr
    try dsimp only at hr
    apply TD.cal (wn T) rfl goFn106 (figure_product_spec h2) rfl rfl rfl
    repeat exact sd T
    refine wA T (g:=?_)
    obtain ⟨⟨v10,v11⟩,h3,hr⟩:=bs hr
    try dsimp only at hr
    apply TD.cal (wn T) rfl goFn106 (figure_product_spec h3) rfl rfl rfl
    repeat exact sd T
    refine wa_ T (g:=?_)
    obtain ⟨v12,h4,hr⟩:=bs hr
    apply TD.cal (wn T) rfl goFn107 (figure_wide_isAtMost_spec h4) rfl rfl rfl
    repeat exact sd T
    refine wa_ T (g:=?_)
    cases hr
    refine ⟨.inr rfl,_,(ry T),?_⟩
    exact wr [] rfl .nil
  rfl

end Go.Rex

namespace Go.Rex
open Go.Proofs
open Go Go.Rex Go.RowKit
set_option maxRecDepth 100000
set_option maxHeartbeats 1000000
def y10:=an @ag112 <| an @ag3 <| an @ag30 <| an @cs112 <| an @cs3 <| an @cs30 <| an @cs31 <| an @fd30_0 <| an @fd30_1 <| an @ok112 <| an @ok3 <| an @ok30 <| an @so149 <| an @st112 <| an @st30 <| an @zc112 <| an @zc30 <| an @zc31 <| an @wi64_m90a1 <| @wi64_90s1
theorem figure_LevelOf_spec {v1 : Int} {v2 : Int} {v3 : Int} {v4 : Int} {v5 : Int} (hr : figure_LevelOf v1 v2 = some (v3,v4,v5)) : Spec (lim Tryz.prog) 23 [.v (.int .i64 v1),.v (.int .i64 v2)] ⟨[.tuple [.agg [.v (.int .i64 v3),.v (.int .i64 v4)],.v (.int .i64 v5)]],[]⟩:=by
  unfold figure_LevelOf at hr
  have T:=an y10 <| @e_i.eq_1
  apply Spec.fn Tryz.func23 rfl
  focus (simp [Tryz.f23]<;>exact rfl)
  focus
    refine wa_ T (g:=?_)
    obtain ⟨v6,h1,hr⟩:=bs hr
    apply TO.cal (wn T) rfl goFn63 (figure_within_spec h1) rfl rfl rfl
    repeat exact sd T
    refine wa_ T (g:=?_)
    obtain ⟨v7,h2,hr⟩:=bs hr
    apply TO.cal (wn T) rfl goFn63 (figure_within_spec h2) rfl rfl rfl
    repeat exact sd T
    refine wa_ T (g:=?_)
    apply TO.bm e_i ([v6,v7] : List Int) (wn T) rfl (by simp only [zz,y10,e_i,Nat.reduceAdd,Nat.reduceMul,Nat.reduceLeDiff,Nat.reduceEqDiff,tslice,tparts];exact rfl) rfl
    repeat exact sd T
    refine wa_ T (g:=?_)
    obtain ⟨v8,h3,hr⟩:=bs hr
    apply TO.cal (wn T) rfl goFn54 (figure_firstError_spec h3) rfl rfl rfl
    repeat exact sd T
    refine wa_ T (g:=?_)
    rcases ifs hr with ⟨h4,hr⟩|⟨h4,hr⟩
    · have T:=an h4 T
      refine wa_ T (g:=?_)
      cases hr
      refine ⟨.inr rfl,_,(ry T),?_⟩
      exact wk_ T [] rfl .nil
    · have T:=an h4 T
      refine wA T (g:=?_)
      obtain ⟨v9,h5,hr⟩:=bs hr
      apply TO.cal (wn T) rfl goFn64 (figure_quotient_reaches_spec h5) rfl rfl rfl
      repeat exact sd T
      refine wa_ T (g:=?_)
      apply TO.pop1 (wn T) (pop_not rfl)
      repeat exact sd T
      refine wa_ T (g:=?_)
      rcases ifs hr with ⟨h6,hr⟩|⟨h6,hr⟩
      · have T:=an h6 T
        refine wA T (g:=?_)
        obtain ⟨v10,h7,hr⟩:=bs hr
        apply TO.cal (wn T) rfl goFn65 (figure_quotient_keepsTo_spec h7) rfl rfl rfl
        repeat exact sd T
        refine wa_ T (g:=?_)
        apply TO.pop1 (wn T) (pop_not rfl)
        repeat exact sd T
        refine wa_ T (g:=?_)
        rcases ifs hr with ⟨h8,hr⟩|⟨h8,hr⟩
        · have T:=an h8 T
          refine wa_ T (g:=?_)
          obtain ⟨v15,h13,hr⟩:=bs hr
          refine TX.loopE (step:=figure_LevelOf_l1 v1 v2) (x:=(-90)) h13 (fun v11=>⟨.junk :: .junk :: .junk :: .junk :: .lptr 0 0 0 :: .junk :: .junk :: .lptr 1 0 0 :: .lptr 2 0 0 :: .junk :: .junk :: .junk :: .junk :: .junk :: .junk :: .junk :: .junk :: .junk :: .junk :: .junk :: .junk :: .junk :: .junk :: .junk :: .junk :: .junk :: .junk :: .junk :: .junk :: .junk :: .junk :: .junk :: .junk :: .junk :: .junk :: .junk :: .junk :: .junk :: .junk :: .junk :: .junk :: .junk :: .junk :: .junk :: .junk :: .junk :: .junk :: .junk :: .junk :: .junk :: .junk :: [],[.var [.v (.int .i64 0),.v (.int .i64 0)],.var [.v (.int .i64 v1),.v (.int .i64 v2)],.var [.v (.int .i64 v11),.v (.int .i64 90)]]⟩) (fun v13=>(.exit 0,⟨.junk :: .junk :: .junk :: .junk :: .lptr 0 0 0 :: .junk :: .junk :: .lptr 1 0 0 :: .lptr 2 0 0 :: .junk :: .junk :: .junk :: .junk :: .junk :: .junk :: .junk :: .junk :: .junk :: .junk :: .junk :: .junk :: .junk :: .junk :: .junk :: .junk :: .junk :: .junk :: .junk :: .junk :: .junk :: .junk :: .junk :: .junk :: .junk :: .junk :: .junk :: .junk :: .junk :: .junk :: .junk :: .junk :: .junk :: .junk :: .junk :: .junk :: .junk :: .junk :: .junk :: .junk :: .junk :: .junk :: [],[.var [.v (.int .i64 0),.v (.int .i64 0)],.var [.v (.int .i64 v1),.v (.int .i64 v2)],.var [.v (.int .i64 v13),.v (.int .i64 90)]]⟩)) ?_ ?_ ?_ ?_
          · rintro v11 v0 hr
            dsimp only [figure_LevelOf_l1] at hr
            try dsimp only
            refine wA T (g:=?_)
            obtain ⟨v14,h11,hr⟩:=bs hr
            apply TO.cal (wn T) rfl goFn64 (figure_quotient_reaches_spec h11) rfl rfl rfl
            repeat exact sd T
            refine wa_ T (g:=?_)
            rcases ifs hr with ⟨h12,hr⟩|⟨h12,hr⟩
            · have T:=an h12 T
              refine wA T (g:=?_)
              cases hr
              refine ⟨rfl,?_⟩
              exact wk_ T [some 0,some 1,some 2] rfl (rv (rv (rv .nil rfl) rfl) rfl)
            · have T:=an h12 T
              refine wa_ T (g:=?_)
              cases hr
              refine ⟨rfl,?_⟩
              exact wk_ T [some 0,some 1,some 2] rfl (rv (rv (rv .nil rfl) rfl) rfl)
          · intro e h;cases h
          · try dsimp only
            refine wa_ T (g:=?_)
            obtain ⟨v20,h18,hr⟩:=bs hr
            refine TX.loopE (step:=figure_LevelOf_l2 v1 v2) (x:=90) h18 (fun v16=>⟨.junk :: .junk :: .junk :: .junk :: .lptr 0 0 0 :: .junk :: .junk :: .lptr 1 0 0 :: .lptr 2 0 0 :: .junk :: .junk :: .junk :: .junk :: .junk :: .junk :: .junk :: .junk :: .junk :: .junk :: .junk :: .junk :: .junk :: .junk :: .junk :: .junk :: .junk :: .junk :: .junk :: .junk :: .junk :: .junk :: .junk :: .junk :: .junk :: .junk :: .junk :: .junk :: .junk :: .junk :: .junk :: .junk :: .junk :: .junk :: .junk :: .junk :: .junk :: .junk :: .junk :: .junk :: .junk :: .junk :: [],[.var [.v (.int .i64 0),.v (.int .i64 0)],.var [.v (.int .i64 v1),.v (.int .i64 v2)],.var [.v (.int .i64 v15),.v (.int .i64 v16)]]⟩) (fun v18=>(.exit 2,⟨.junk :: .junk :: .junk :: .junk :: .lptr 0 0 0 :: .junk :: .junk :: .junk :: .lptr 1 0 0 :: .junk :: .junk :: .junk :: .junk :: .junk :: .junk :: .junk :: .junk :: .junk :: .junk :: .junk :: .junk :: .junk :: .junk :: .junk :: .junk :: .junk :: .junk :: .junk :: .junk :: .junk :: .junk :: .junk :: .junk :: .junk :: .junk :: .junk :: .junk :: .junk :: .junk :: .junk :: .junk :: .junk :: .junk :: .junk :: .junk :: .junk :: .junk :: .junk :: .junk :: .junk :: .junk :: [],[.var [.v (.int .i64 0),.v (.int .i64 0)],.var [.v (.int .i64 v15),.v (.int .i64 v18)]]⟩)) ?_ ?_ ?_ ?_
            · rintro v16 v0 hr
              dsimp only [figure_LevelOf_l2] at hr
              try dsimp only
              refine wA T (g:=?_)
              obtain ⟨v19,h16,hr⟩:=bs hr
              apply TO.cal (wn T) rfl goFn65 (figure_quotient_keepsTo_spec h16) rfl rfl rfl
              repeat exact sd T
              refine wa_ T (g:=?_)
              rcases ifs hr with ⟨h17,hr⟩|⟨h17,hr⟩
              · have T:=an h17 T
                refine wA T (g:=?_)
                cases hr
                refine ⟨rfl,?_⟩
                exact wk_ T [some 0,some 1,some 2] rfl (rv (rv (rv .nil rfl) rfl) rfl)
              · have T:=an h17 T
                refine wa_ T (g:=?_)
                cases hr
                refine ⟨rfl,?_⟩
                exact wk_ T [some 0,some 2] rfl (rv (rv .nil rfl) rfl)
            · intro e h;cases h
            · try dsimp only
              refine wA T (g:=?_)
              cases hr
              refine ⟨.inr rfl,_,(ry T),?_⟩
              exact wk_ T [] rfl .nil
            · try dsimp only
              exact wk_ T [some 0,some 1,some 2] rfl (rv (rv (rv .nil rfl) rfl) rfl)
          · try dsimp only
            exact wk_ T [some 0,some 1,some 2] rfl (rv (rv (rv .nil rfl) rfl) rfl)
        · have T:=an h8 T
          refine wa_ T (g:=?_)
          cases hr
          refine ⟨.inr rfl,_,(ry T),?_⟩
          exact wk_ T [] rfl .nil
      · have T:=an h6 T
        refine wa_ T (g:=?_)
        cases hr
        refine ⟨.inr rfl,_,(ry T),?_⟩
        exact wk_ T [] rfl .nil
  rfl

end Go.Rex

namespace Go.Rex
open Go.Proofs
open Go Go.Rex Go.RowKit
set_option maxRecDepth 100000
set_option maxHeartbeats 200000
theorem base_Within_spec {v1 : Int} {v2 : Int} {v3 : Int} {v4 : Bool} (hr : base_Within v1 v2 v3 = some (v4)) : Spec (lim Tryz.prog) 25 [.v (.int .i64 v1),.v (.int .i64 v2),.v (.int .i64 v3)] ⟨[.v (.bool v4)],[]⟩:=by
  unfold base_Within at hr
  have T:=trivial
  apply Spec.fn Tryz.func25 rfl
  focus (simp [Tryz.f25]<;>exact rfl)
  focus
    refine wa_ T (g:=?_)
    rcases ifs hr with ⟨h1,hr⟩|⟨h1,hr⟩
    · have T:=an h1 T
      refine wa_ T (g:=?_)
      cases hr
      refine ⟨.inr rfl,_,(ry T),?_⟩
      exact wk_ T [] rfl .nil
    · have T:=an h1 T
      refine wa_ T (g:=?_)
      cases hr
      refine ⟨.inr rfl,_,(ry T),?_⟩
      exact wk_ T [] rfl .nil
  rfl

end Go.Rex

namespace Go.Rex
open Go.Proofs
open Go Go.Rex Go.RowKit
set_option maxRecDepth 100000
set_option maxHeartbeats 200000
theorem base_Floor_spec {v1 : Int} {v2 : Int} {v3 : Int} (hr : base_Floor v1 v2 = some (v3)) : Spec (lim Tryz.prog) 61 [.v (.int .i64 v1),.v (.int .i64 v2)] ⟨[.v (.int .i64 v3)],[]⟩:=by
  unfold base_Floor at hr
  have T:=trivial
  apply Spec.fn Tryz.func61 rfl
  focus (simp [Tryz.f61]<;>exact rfl)
  focus
    refine wa_ T (g:=?_)
    by_cases h1 : v2 = 0
    · rw [if_pos h1] at hr
      cases hr
    · rw [if_neg h1] at hr
      have T:=an h1 T
      refine wa_ T (g:=?_)
      rcases ifs hr with ⟨h2,hr⟩|⟨h2,hr⟩
      · have T:=an h2 T
        refine wa_ T (g:=?_)
        cases hr
        refine ⟨.inr rfl,_,(ry T),?_⟩
        exact wk_ T [] rfl .nil
      · have T:=an h2 T
        refine wa_ T (g:=?_)
        cases hr
        refine ⟨.inr rfl,_,(ry T),?_⟩
        exact wk_ T [] rfl .nil
  rfl

end Go.Rex

namespace Go.Rex
open Go.Proofs
open Go Go.Rex Go.RowKit
set_option maxRecDepth 100000
set_option maxHeartbeats 200000
theorem base_Compare_spec {v1 : Int} {v2 : Int} {v3 : Int} {v4 : Int} {v5 : Int} (hr : base_Compare v1 v2 v3 v4 = some (v5)) : Spec (lim Tryz.prog) 33 [.v (.int .i64 v1),.v (.int .i64 v2),.v (.int .i64 v3),.v (.int .i64 v4)] ⟨[.v (.int .i64 v5)],[]⟩:=by
  unfold base_Compare at hr
  have T:=trivial
  apply Spec.fn Tryz.func33 rfl
  focus (simp [Tryz.f33]<;>exact rfl)
  focus
    refine wa_ T (g:=?_)
    obtain ⟨v15,h15,hr⟩:=bs hr
    refine TX.loopE (step:=base_Compare_l1) (x:=(v1,v2,v3,v4)) h15 (fun (v6,v7,v8,v9)=>⟨.v (.int .i64 v6) :: .v (.int .i64 v7) :: .v (.int .i64 v8) :: .v (.int .i64 v9) :: .junk :: .junk :: .junk :: .junk :: .junk :: .junk :: .junk :: .junk :: .junk :: .junk :: .junk :: .junk :: .junk :: .junk :: .junk :: .junk :: .junk :: .junk :: .junk :: .junk :: .junk :: .junk :: .junk :: .junk :: .junk :: .junk :: .junk :: .junk :: .junk :: .junk :: .junk :: .junk :: .junk :: .junk :: .junk :: .junk :: .junk :: .junk :: .junk :: .junk :: .junk :: .junk :: .junk :: [],[]⟩) (fun v12=>(.ret,⟨.junk :: .junk :: .junk :: .junk :: .junk :: .junk :: .junk :: .junk :: .v (.int .i64 v12) :: .junk :: .junk :: .junk :: .junk :: .junk :: .junk :: .junk :: .junk :: .junk :: .junk :: .junk :: .junk :: .junk :: .junk :: .junk :: .junk :: .junk :: .junk :: .junk :: .junk :: .junk :: .junk :: .junk :: .junk :: .junk :: .junk :: .junk :: .junk :: .junk :: .junk :: .junk :: .junk :: .junk :: .junk :: .junk :: .junk :: .junk :: .junk :: [],[]⟩)) ?_ ?_ ?_ ?_
    · rintro ⟨v6,v7,v8,v9⟩ v0 hr
      dsimp only [base_Compare_l1] at hr
      try dsimp only
      refine wa_ T (g:=?_)
      obtain ⟨v13,h8,hr⟩:=bs hr
      apply TO.cal (wn T) rfl goFn61 (base_Floor_spec h8) rfl rfl rfl
      repeat exact sd T
      refine wa_ T (g:=?_)
      obtain ⟨v14,h9,hr⟩:=bs hr
      apply TO.cal (wn T) rfl goFn61 (base_Floor_spec h9) rfl rfl rfl
      repeat exact sd T
      refine wa_ T (g:=?_)
      rcases ifs hr with ⟨h10,hr⟩|⟨h10,hr⟩
      · have T:=an h10 T
        refine wa_ T (g:=?_)
        cases hr
        refine ⟨rfl,?_⟩
        exact wk_ T [] rfl .nil
      · have T:=an h10 T
        refine wa_ T (g:=?_)
        rcases ifs hr with ⟨h11,hr⟩|⟨h11,hr⟩
        · have T:=an h11 T
          refine wa_ T (g:=?_)
          cases hr
          refine ⟨rfl,?_⟩
          exact wk_ T [] rfl .nil
        · have T:=an h11 T
          refine wa_ T (g:=?_)
          rcases ifs hr with ⟨h12,hr⟩|⟨h12,hr⟩
          · have T:=an h12 T
            refine wa_ T (g:=?_)
            rcases ifs hr with ⟨h13,hr⟩|⟨h13,hr⟩
            · have T:=an h13 T
              refine wa_ T (g:=?_)
              cases hr
              refine ⟨rfl,?_⟩
              exact wk_ T [] rfl .nil
            · have T:=an h13 T
              refine wa_ T (g:=?_)
              cases hr
              refine ⟨rfl,?_⟩
              exact wk_ T [] rfl .nil
          · have T:=an h12 T
            refine wa_ T (g:=?_)
            rcases ifs hr with ⟨h14,hr⟩|⟨h14,hr⟩
            · have T:=an h14 T
              refine wa_ T (g:=?_)
              cases hr
              refine ⟨rfl,?_⟩
              exact wk_ T [] rfl .nil
            · have T:=an h14 T
              refine wa_ T (g:=?_)
              cases hr
              refine ⟨rfl,?_⟩
              exact wk_ T [] rfl .nil
    · intro e h;cases h
    · try dsimp only
      refine wa_ T (g:=?_)
      cases hr
      refine ⟨.inr rfl,_,(ry T),?_⟩
      exact wr [] rfl .nil
    · try dsimp only
      exact wr [] rfl .nil
  rfl

end Go.Rex

namespace Go.Rex
open Go.Proofs
open Go Go.Rex Go.RowKit
set_option maxRecDepth 100000
set_option maxHeartbeats 200000
theorem base_Mod_spec {v1 : Int} {v2 : Int} {v3 : Int} (hr : base_Mod v1 v2 = some (v3)) : Spec (lim Tryz.prog) 108 [.v (.int .i64 v1),.v (.int .i64 v2)] ⟨[.v (.int .i64 v3)],[]⟩:=by
  unfold base_Mod at hr
  have T:=trivial
  apply Spec.fn Tryz.func108 rfl
  focus (simp [Tryz.f108]<;>exact rfl)
  focus
    refine wa_ T (g:=?_)
    by_cases h1 : v2 = 0
    · rw [if_pos h1] at hr
      cases hr
    · rw [if_neg h1] at hr
      have T:=an h1 T
      refine wa_ T (g:=?_)
      rcases ifs hr with ⟨h2,hr⟩|⟨h2,hr⟩
      · have T:=an h2 T
        refine wa_ T (g:=?_)
        cases hr
        refine ⟨.inr rfl,_,(ry T),?_⟩
        exact wk_ T [] rfl .nil
      · have T:=an h2 T
        refine wa_ T (g:=?_)
        cases hr
        refine ⟨.inr rfl,_,(ry T),?_⟩
        exact wk_ T [] rfl .nil
  rfl

end Go.Rex

namespace Go.Rex
open Go.Proofs
open Go Go.Rex Go.RowKit
set_option maxRecDepth 100000
set_option maxHeartbeats 200000
def y11:=an @ag3 <| an @ar186 <| an @cs3 <| an @ok3 <| an @so186 <| an @st186 <| @zc186
theorem ref05_tenths_spec {v1 : Int} {v2 : Int} (hr : ref05_tenths v1 = some (v2)) : Spec (lim Tryz.prog) 109 [.v (.int .i64 v1)] ⟨[.v (.int .i64 v2)],[]⟩:=by
  unfold ref05_tenths at hr
  have T:=an y11 <| @e_i.eq_1
  apply Spec.fn Tryz.func109 rfl
  focus (simp [Tryz.f109]<;>exact rfl)
  focus
    refine wa_ T (g:=?_)
    obtain ⟨v3,h1,hr⟩:=bs hr
    have h1l:=getI_lt h1
    refine wa_ T (g:=?_)
    have T:=an h1l T
    apply TO.pop1 (wn T) (ix_ok (f:=e_i) (xs:=([1000000000,1258925411,1584893192,1995262314,2511886431,3162277660,3981071705,5011872336,6309573444,7943282347] : List Int)) h1 rfl rfl rfl ar186 rfl ok3 (fun _=>rfl) cs3 (by first|exact .inl ⟨ag3,ok3,rfl⟩|exact .inr ⟨ag3,rfl,rfl⟩))
    repeat exact sd T
    refine wa_ T (g:=?_)
    cases hr
    refine ⟨.inr rfl,_,(ry T),?_⟩
    exact wr [] rfl .nil
  rfl

end Go.Rex

namespace Go.Rex
open Go.Proofs
open Go Go.Rex Go.RowKit
set_option maxRecDepth 100000
set_option maxHeartbeats 200000
def y12:=an @wi64_0a1 <| @wi64_10m1
theorem ref05_ten_spec {v1 : Int} {v2 : Int} (hr : ref05_ten v1 = some (v2)) : Spec (lim Tryz.prog) 110 [.v (.int .i64 v1)] ⟨[.v (.int .i64 v2)],[]⟩:=by
  unfold ref05_ten at hr
  have T:=y12
  apply Spec.fn Tryz.func110 rfl
  focus (simp [Tryz.f110]<;>exact rfl)
  focus
    refine wa_ T (g:=?_)
    obtain ⟨v6,h3,hr⟩:=bs hr
    refine TX.loopE (step:=ref05_ten_l1 v1) (x:=(1,0)) h3 (fun (v3,v4)=>⟨.v (.int .i64 v1) :: .junk :: .junk :: .v (.int .i64 v3) :: .v (.int .i64 v4) :: .junk :: .junk :: .junk :: .junk :: .junk :: .junk :: .junk :: .junk :: [],[]⟩) (fun v5=>(.exit 0,⟨.junk :: .junk :: .junk :: .v (.int .i64 v5) :: .junk :: .junk :: .junk :: .junk :: .junk :: .junk :: .junk :: .junk :: .junk :: [],[]⟩)) ?_ ?_ ?_ ?_
    · rintro ⟨v3,v4⟩ v0 hr
      dsimp only [ref05_ten_l1] at hr
      try dsimp only
      refine wa_ T (g:=?_)
      rcases ifs hr with ⟨h2,hr⟩|⟨h2,hr⟩
      · have T:=an h2 T
        refine wa_ T (g:=?_)
        cases hr
        refine ⟨rfl,?_⟩
        exact wk_ T [] rfl .nil
      · have T:=an h2 T
        refine wa_ T (g:=?_)
        cases hr
        refine ⟨rfl,?_⟩
        exact wk_ T [] rfl .nil
    · intro e h;cases h
    · try dsimp only
      refine wa_ T (g:=?_)
      cases hr
      refine ⟨.inr rfl,_,(ry T),?_⟩
      exact wr [] rfl .nil
    · try dsimp only
      exact wr [] rfl .nil
  rfl

end Go.Rex

namespace Go.Rex
open Go.Proofs
open Go Go.Rex Go.RowKit
set_option maxRecDepth 100000
set_option maxHeartbeats 200000
theorem ref05_against_spec {v1 : Int} {v2 : Int} {v3 : Int} {v4 : Int} {v5 : Int} (hr : ref05_against v1 v2 v3 v4 = some (v5)) : Spec (lim Tryz.prog) 66 [.v (.int .i64 v1),.v (.int .i64 v2),.v (.int .i64 v3),.v (.int .i64 v4)] ⟨[.v (.int .i64 v5)],[]⟩:=by
  unfold ref05_against at hr
  have T:=trivial
  apply Spec.fn Tryz.func66 rfl
  focus (simp [Tryz.f66]<;>exact rfl)
  focus
    refine wa_ T (g:=?_)
    obtain ⟨v6,h1,hr⟩:=bs hr
    apply TO.cal (wn T) rfl goFn108 (base_Mod_spec h1) rfl rfl rfl
    repeat exact sd T
    refine wa_ T (g:=?_)
    obtain ⟨v7,h2,hr⟩:=bs hr
    apply TO.cal (wn T) rfl goFn61 (base_Floor_spec h2) rfl rfl rfl
    repeat exact sd T
    refine wa_ T (g:=?_)
    obtain ⟨v8,h3,hr⟩:=bs hr
    apply TO.cal (wn T) rfl goFn109 (ref05_tenths_spec h3) rfl rfl rfl
    repeat exact sd T
    refine wa_ T (g:=?_)
    rcases ifs hr with ⟨h4,hr⟩|⟨h4,hr⟩
    · have T:=an h4 T
      refine wa_ T (g:=?_)
      rcases ifs hr with ⟨h5,hr⟩|⟨h5,hr⟩
      · have T:=an h5 T
        refine wa_ T (g:=?_)
        obtain ⟨v9,h6,hr⟩:=bs hr
        apply TO.cal (wn T) rfl goFn110 (ref05_ten_spec h6) rfl rfl rfl
        repeat exact sd T
        refine wa_ T (g:=?_)
        obtain ⟨v10,h7,hr⟩:=bs hr
        apply TO.cal (wn T) rfl goFn33 (base_Compare_spec h7) rfl rfl rfl
        repeat exact sd T
        refine wa_ T (g:=?_)
        cases hr
        refine ⟨.inr rfl,_,(ry T),?_⟩
        exact wk_ T [] rfl .nil
      · have T:=an h5 T
        refine wa_ T (g:=?_)
        obtain ⟨v11,h8,hr⟩:=bs hr
        apply TO.cal (wn T) rfl goFn110 (ref05_ten_spec h8) rfl rfl rfl
        repeat exact sd T
        refine wa_ T (g:=?_)
        obtain ⟨v12,h9,hr⟩:=bs hr
        apply TO.cal (wn T) rfl goFn33 (base_Compare_spec h9) rfl rfl rfl
        repeat exact sd T
        refine wa_ T (g:=?_)
        cases hr
        refine ⟨.inr rfl,_,(ry T),?_⟩
        exact wk_ T [] rfl .nil
    · have T:=an h4 T
      refine wa_ T (g:=?_)
      rcases ifs hr with ⟨h10,hr⟩|⟨h10,hr⟩
      · have T:=an h10 T
        refine wa_ T (g:=?_)
        obtain ⟨v13,h11,hr⟩:=bs hr
        apply TO.cal (wn T) rfl goFn110 (ref05_ten_spec h11) rfl rfl rfl
        repeat exact sd T
        refine wa_ T (g:=?_)
        obtain ⟨v14,h12,hr⟩:=bs hr
        apply TO.cal (wn T) rfl goFn33 (base_Compare_spec h12) rfl rfl rfl
        repeat exact sd T
        refine wa_ T (g:=?_)
        cases hr
        refine ⟨.inr rfl,_,(ry T),?_⟩
        exact wk_ T [] rfl .nil
      · have T:=an h10 T
        refine wa_ T (g:=?_)
        obtain ⟨v15,h13,hr⟩:=bs hr
        apply TO.cal (wn T) rfl goFn110 (ref05_ten_spec h13) rfl rfl rfl
        repeat exact sd T
        refine wa_ T (g:=?_)
        obtain ⟨v16,h14,hr⟩:=bs hr
        apply TO.cal (wn T) rfl goFn33 (base_Compare_spec h14) rfl rfl rfl
        repeat exact sd T
        refine wa_ T (g:=?_)
        cases hr
        refine ⟨.inr rfl,_,(ry T),?_⟩
        exact wk_ T [] rfl .nil
  rfl

end Go.Rex

namespace Go.Rex
open Go.Proofs
open Go Go.Rex Go.RowKit
set_option maxRecDepth 100000
set_option maxHeartbeats 1000000
def y13:=an @ag3 <| an @ag30 <| an @cs3 <| an @cs30 <| an @fd30_0 <| an @fd30_1 <| an @ok3 <| an @ok30 <| an @st30 <| an @zc30 <| an @wi64_m90a1 <| @wi64_90s1
theorem ref05_LevelOf_spec {v1 : Int} {v2 : Int} {v3 : Int} {v4 : Int} {v5 : Int} (hr : ref05_LevelOf v1 v2 = some (v3,v4,v5)) : Spec (lim Tryz.prog) 24 [.v (.int .i64 v1),.v (.int .i64 v2)] ⟨[.tuple [.agg [.v (.int .i64 v3),.v (.int .i64 v4)],.v (.int .i64 v5)]],[]⟩:=by
  unfold ref05_LevelOf at hr
  have T:=y13
  apply Spec.fn Tryz.func24 rfl
  focus (simp [Tryz.f24]<;>exact rfl)
  focus
    refine wa_ T (g:=?_)
    obtain ⟨v6,h1,hr⟩:=bs hr
    apply TO.cal (wn T) rfl goFn25 (base_Within_spec h1) rfl rfl rfl
    repeat exact sd T
    refine wa_ T (g:=?_)
    apply TO.pop1 (wn T) (pop_not rfl)
    repeat exact sd T
    refine wa_ T (g:=?_)
    rcases ifs hr with ⟨h2,hr⟩|⟨h2,hr⟩
    · have T:=an h2 T
      refine wa_ T (g:=?_)
      obtain ⟨v7,h3,hr⟩:=bs hr
      apply TO.cal (wn T) rfl goFn25 (base_Within_spec h3) rfl rfl rfl
      repeat exact sd T
      refine wa_ T (g:=?_)
      apply TO.pop1 (wn T) (pop_not rfl)
      repeat exact sd T
      refine wa_ T (g:=?_)
      rcases ifs hr with ⟨h4,hr⟩|⟨h4,hr⟩
      · have T:=an h4 T
        refine wa_ T (g:=?_)
        obtain ⟨v8,h5,hr⟩:=bs hr
        apply TO.cal (wn T) rfl goFn33 (base_Compare_spec h5) rfl rfl rfl
        repeat exact sd T
        refine wa_ T (g:=?_)
        rcases ifs hr with ⟨h6,hr⟩|⟨h6,hr⟩
        · have T:=an h6 T
          refine wa_ T (g:=?_)
          cases hr
          refine ⟨.inr rfl,_,(ry T),?_⟩
          exact wk_ T [] rfl .nil
        · have T:=an h6 T
          refine wa_ T (g:=?_)
          obtain ⟨v9,h7,hr⟩:=bs hr
          apply TO.cal (wn T) rfl goFn33 (base_Compare_spec h7) rfl rfl rfl
          repeat exact sd T
          refine wa_ T (g:=?_)
          rcases ifs hr with ⟨h8,hr⟩|⟨h8,hr⟩
          · have T:=an h8 T
            refine wa_ T (g:=?_)
            cases hr
            refine ⟨.inr rfl,_,(ry T),?_⟩
            exact wk_ T [] rfl .nil
          · have T:=an h8 T
            refine wa_ T (g:=?_)
            obtain ⟨v14,h13,hr⟩:=bs hr
            refine TX.loopE (step:=ref05_LevelOf_l1 v1 v2) (x:=90) h13 (fun v10=>⟨.v (.int .i64 v1) :: .v (.int .i64 v2) :: .junk :: .junk :: .lptr 0 0 0 :: .junk :: .lptr 1 0 0 :: .junk :: .junk :: .junk :: .junk :: .junk :: .junk :: .junk :: .junk :: .junk :: .junk :: .junk :: .junk :: .junk :: .junk :: .junk :: .junk :: .junk :: .junk :: .junk :: .junk :: .junk :: .junk :: .junk :: .junk :: .junk :: .junk :: .junk :: .junk :: .junk :: .junk :: .junk :: .junk :: .junk :: .junk :: .junk :: .junk :: .junk :: .junk :: .junk :: .junk :: .junk :: .junk :: [],[.var [.v (.int .i64 0),.v (.int .i64 0)],.var [.v (.int .i64 v10),.v (.int .i64 (-90))]]⟩) (fun v12=>(.exit 0,⟨.v (.int .i64 v1) :: .v (.int .i64 v2) :: .junk :: .junk :: .lptr 0 0 0 :: .junk :: .lptr 1 0 0 :: .junk :: .junk :: .junk :: .junk :: .junk :: .junk :: .junk :: .junk :: .junk :: .junk :: .junk :: .junk :: .junk :: .junk :: .junk :: .junk :: .junk :: .junk :: .junk :: .junk :: .junk :: .junk :: .junk :: .junk :: .junk :: .junk :: .junk :: .junk :: .junk :: .junk :: .junk :: .junk :: .junk :: .junk :: .junk :: .junk :: .junk :: .junk :: .junk :: .junk :: .junk :: .junk :: [],[.var [.v (.int .i64 0),.v (.int .i64 0)],.var [.v (.int .i64 v12),.v (.int .i64 (-90))]]⟩)) ?_ ?_ ?_ ?_
            · rintro v10 v0 hr
              dsimp only [ref05_LevelOf_l1] at hr
              try dsimp only
              refine wA T (g:=?_)
              obtain ⟨v13,h11,hr⟩:=bs hr
              apply TO.cal (wn T) rfl goFn66 (ref05_against_spec h11) rfl rfl rfl
              repeat exact sd T
              refine wa_ T (g:=?_)
              rcases ifs hr with ⟨h12,hr⟩|⟨h12,hr⟩
              · have T:=an h12 T
                refine wA T (g:=?_)
                cases hr
                refine ⟨rfl,?_⟩
                exact wk_ T [some 0,some 1] rfl (rv (rv .nil rfl) rfl)
              · have T:=an h12 T
                refine wa_ T (g:=?_)
                cases hr
                refine ⟨rfl,?_⟩
                exact wk_ T [some 0,some 1] rfl (rv (rv .nil rfl) rfl)
            · intro e h;cases h
            · try dsimp only
              refine wa_ T (g:=?_)
              obtain ⟨v19,h18,hr⟩:=bs hr
              refine TX.loopE (step:=ref05_LevelOf_l2 v1 v2) (x:=(-90)) h18 (fun v15=>⟨.v (.int .i64 v1) :: .v (.int .i64 v2) :: .junk :: .junk :: .lptr 0 0 0 :: .junk :: .lptr 1 0 0 :: .junk :: .junk :: .junk :: .junk :: .junk :: .junk :: .junk :: .junk :: .junk :: .junk :: .junk :: .junk :: .junk :: .junk :: .junk :: .junk :: .junk :: .junk :: .junk :: .junk :: .junk :: .junk :: .junk :: .junk :: .junk :: .junk :: .junk :: .junk :: .junk :: .junk :: .junk :: .junk :: .junk :: .junk :: .junk :: .junk :: .junk :: .junk :: .junk :: .junk :: .junk :: .junk :: [],[.var [.v (.int .i64 0),.v (.int .i64 0)],.var [.v (.int .i64 v14),.v (.int .i64 v15)]]⟩) (fun v17=>(.exit 2,⟨.junk :: .junk :: .junk :: .junk :: .lptr 0 0 0 :: .junk :: .lptr 1 0 0 :: .junk :: .junk :: .junk :: .junk :: .junk :: .junk :: .junk :: .junk :: .junk :: .junk :: .junk :: .junk :: .junk :: .junk :: .junk :: .junk :: .junk :: .junk :: .junk :: .junk :: .junk :: .junk :: .junk :: .junk :: .junk :: .junk :: .junk :: .junk :: .junk :: .junk :: .junk :: .junk :: .junk :: .junk :: .junk :: .junk :: .junk :: .junk :: .junk :: .junk :: .junk :: .junk :: [],[.var [.v (.int .i64 0),.v (.int .i64 0)],.var [.v (.int .i64 v14),.v (.int .i64 v17)]]⟩)) ?_ ?_ ?_ ?_
              · rintro v15 v0 hr
                dsimp only [ref05_LevelOf_l2] at hr
                try dsimp only
                refine wA T (g:=?_)
                obtain ⟨v18,h16,hr⟩:=bs hr
                apply TO.cal (wn T) rfl goFn66 (ref05_against_spec h16) rfl rfl rfl
                repeat exact sd T
                refine wa_ T (g:=?_)
                rcases ifs hr with ⟨h17,hr⟩|⟨h17,hr⟩
                · have T:=an h17 T
                  refine wA T (g:=?_)
                  cases hr
                  refine ⟨rfl,?_⟩
                  exact wk_ T [some 0,some 1] rfl (rv (rv .nil rfl) rfl)
                · have T:=an h17 T
                  refine wa_ T (g:=?_)
                  cases hr
                  refine ⟨rfl,?_⟩
                  exact wk_ T [some 0,some 1] rfl (rv (rv .nil rfl) rfl)
              · intro e h;cases h
              · try dsimp only
                refine wA T (g:=?_)
                cases hr
                refine ⟨.inr rfl,_,(ry T),?_⟩
                exact wk_ T [] rfl .nil
              · try dsimp only
                exact wk_ T [some 0,some 1] rfl (rv (rv .nil rfl) rfl)
            · try dsimp only
              exact wk_ T [some 0,some 1] rfl (rv (rv .nil rfl) rfl)
      · have T:=an h4 T
        refine wa_ T (g:=?_)
        cases hr
        refine ⟨.inr rfl,_,(ry T),?_⟩
        exact wk_ T [] rfl .nil
    · have T:=an h2 T
      refine wa_ T (g:=?_)
      cases hr
      refine ⟨.inr rfl,_,(ry T),?_⟩
      exact wk_ T [] rfl .nil
  rfl

end Go.Rex

namespace Go.Rex
open Go.Proofs
open Go Go.Rex Go.RowKit
set_option maxRecDepth 100000

end Go.Rex

namespace Go.Rex
open Go.Proofs
open Go Go.Rex Go.RowKit
set_option maxRecDepth 100000
set_option maxHeartbeats 4000000
def y14:=an @ag3 <| an @ag30 <| an @cs30 <| an @eqg30 <| an @eqs30 <| an @fd30_0 <| an @fd30_1 <| an @ok30 <| an @st30 <| @zc30
theorem law05_FigureLevels_law {v1 : Int} {v2 : Int} (hr : law05_FigureLevels v1 v2 = some true) {Fz : Nat → Prop} {h : List Blk} {vs : List Value} (hfz : FZ Fz h) (hargs : VLs Fz h noL [.v (.int .i64 v1), .v (.int .i64 v2)] vs)
    {B lo : Nat} {D : Nat → Prop} {m : NMap} {w : World} {args' : List Value} (hrel : Rel B lo D m h w) (hlo : lo ≤ h.length) (hargs' : VRs D m vs args') : Calls Tryz.prog 4 ⟨args'⟩ w (fun e w'=>e = .returned (.bool true) ∧ Below w.heap.size w w'):=by
  unfold law05_FigureLevels at hr
  have T:=y14
  refine law_tex follows awake_true Tryz.func4 rfl (tm0:=.v (.int .i64 v1) :: .v (.int .i64 v2) :: .junk :: .junk :: .junk :: .junk :: .junk :: .junk :: .junk :: .junk :: .junk :: .junk :: .junk :: .junk :: .junk :: .junk :: .junk :: .junk :: .junk :: .junk :: .junk :: .junk :: .junk :: .junk :: .junk :: .junk :: .junk :: .junk :: .junk :: .junk :: .junk :: .junk :: .junk :: .junk :: .junk :: .junk :: .junk :: .junk :: .junk :: .junk :: .junk :: .junk :: .junk :: .junk :: .junk :: .junk :: .junk :: .junk :: .junk :: .junk :: .junk :: .junk :: .junk :: .junk :: .junk :: .junk :: .junk :: .junk :: .junk :: .junk :: .junk :: .junk :: .junk :: .junk :: .junk :: .junk :: .junk :: .junk :: .junk :: .junk :: .junk :: .junk :: .junk :: .junk :: .junk :: .junk :: .junk :: .junk :: .junk :: .junk :: .junk :: .junk :: .junk :: .junk :: .junk :: .junk :: .junk :: .junk :: []) (by simp [Tryz.f4]<;>exact rfl) ?_ hfz hargs hrel hlo hargs'
  refine wa_ T (g:=?_)
  apply TO.cal (wn T) rfl goFn12 Spec.awake rfl rfl rfl
  repeat exact sd T
  refine wa_ T (g:=?_)
  apply TO.pop1 (wn T) (pop_not rfl)
  repeat exact sd T
  refine wa_ T (g:=?_)
  obtain ⟨⟨v4,v5,v6⟩,h1,hr⟩:=bs hr
  try dsimp only at hr
  apply TO.cal (wn T) rfl goFn23 (Spec.ov (figure_LevelOf_spec h1) (by decide)) rfl rfl rfl
  repeat exact sd T
  refine wa_ T (g:=?_)
  obtain ⟨⟨v7,v8,v9⟩,h2,hr⟩:=bs hr
  try dsimp only at hr
  apply TO.cal (wn T) rfl goFn24 (Spec.ov (ref05_LevelOf_spec h2) (by decide)) rfl rfl rfl
  repeat exact sd T
  refine wa_ T (g:=?_)
  rcases ifs hr with ⟨h3,hr⟩|⟨h3,hr⟩
  · have T:=an h3 T
    refine wa_ T (g:=?_)
    exact lv T hr
  · have T:=an h3 T
    refine wA T (g:=?_)
    apply TO.pop1 (wn T) (pop_eqs2 (X:=⟨[.int .i64 (v4),.int .i64 (v5)]⟩) (Y:=⟨[.int .i64 (v7),.int .i64 (v8)]⟩) rfl rfl rfl rfl rfl rfl rfl eqg30 eqs30 rfl)
    repeat exact sd T
    refine wa_ T (g:=?_)
    rcases ifs hr with ⟨h4,hr⟩|⟨h4,hr⟩
    · have T:=an h4 T
      refine wa_ T (g:=?_)
      rcases ifs hr with ⟨h5,hr⟩|⟨h5,hr⟩
      · have T:=an h5 T
        refine wa_ T (g:=?_)
        exact lv T hr
      · have T:=an h5 T
        refine wa_ T (g:=?_)
        obtain ⟨⟨v10,v11,v12⟩,h6,hr⟩:=bs hr
        try dsimp only at hr
        apply TO.cal (wn T) rfl goFn23 (Spec.ov (figure_LevelOf_spec h6) (by decide)) rfl rfl rfl
        repeat exact sd T
        refine wa_ T (g:=?_)
        obtain ⟨⟨v13,v14,v15⟩,h7,hr⟩:=bs hr
        try dsimp only at hr
        apply TO.cal (wn T) rfl goFn23 (Spec.ov (figure_LevelOf_spec h7) (by decide)) rfl rfl rfl
        repeat exact sd T
        refine wa_ T (g:=?_)
        rcases ifs hr with ⟨h8,hr⟩|⟨h8,hr⟩
        · have T:=an h8 T
          refine wA T (g:=?_)
          rcases ifs hr with ⟨h9,hr⟩|⟨h9,hr⟩
          · have T:=an h9 T
            refine wA T (g:=?_)
            rcases ifs hr with ⟨h10,hr⟩|⟨h10,hr⟩
            · have T:=an h10 T
              refine wA T (g:=?_)
              apply TO.pop1 (wn T) (pop_neg rfl)
              repeat exact sd T
              refine wA T (g:=?_)
              apply TO.pop1 (wn T) (pop_neg rfl)
              repeat exact sd T
              refine wa_ T (g:=?_)
              obtain ⟨v16,h11,hr⟩:=bs hr
              apply TO.cal (wn T) rfl goFn25 (Spec.ov (base_Within_spec h11) (by decide)) rfl rfl rfl
              repeat exact sd T
              refine wa_ T (g:=?_)
              rcases ifs hr with ⟨h12,hr⟩|⟨h12,hr⟩
              · have T:=an h12 T
                refine wa_ T (g:=?_)
                rcases ifs hr with ⟨h13,hr⟩|⟨h13,hr⟩
                · have T:=an h13 T
                  refine wA T (g:=?_)
                  apply TO.pop1 (wn T) (pop_eqs1 (X:=⟨[.int .i64 (v13),.int .i64 (v14)]⟩) (Y:=⟨[.int .i64 (0),.int .i64 (0)]⟩) rfl rfl rfl rfl rfl rfl rfl eqg30 eqs30 rfl)
                  repeat exact sd T
                  refine wa_ T (g:=?_)
                  exact lv T hr
                · have T:=an h13 T
                  refine wa_ T (g:=?_)
                  exact lv T hr
              · have T:=an h12 T
                refine wa_ T (g:=?_)
                exact lv T hr
            · have T:=an h10 T
              refine wa_ T (g:=?_)
              exact lv T hr
          · have T:=an h9 T
            refine wa_ T (g:=?_)
            exact lv T hr
        · have T:=an h8 T
          refine wa_ T (g:=?_)
          exact lv T hr
    · have T:=an h4 T
      refine wa_ T (g:=?_)
      exact lv T hr

end Go.Rex
