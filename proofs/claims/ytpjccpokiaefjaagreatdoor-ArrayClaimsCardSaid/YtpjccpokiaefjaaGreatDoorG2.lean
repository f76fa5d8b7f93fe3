/- Proofs that the program's functions do what these plain functions say. -/
import Derived.Test.YtpjccpokiaefjaaGreatDoorGB
import Derived.Test.YtpjccpokiaefjaaGreatDoorS
import Derived.Test.YtpjccpokiaefjaaGreatDoorG1
import Derived.Test.YtpjccpokiaefjaaGreatDoorCZ
set_option linter.unusedSimpArgs false
set_option linter.unusedVariables false
set_option linter.defProp false
namespace Go.Rex
open Go.Proofs
open Go Go.Rex Go.RowKit
set_option maxRecDepth 100000
set_option maxHeartbeats 200000
theorem base_Size_spec {v1 : Int} {v2 : Int} (hr : base_Size v1 = some (v2)) : Spec (lim Tryz.prog) 182 [.v (.int .i64 v1)] ⟨[.v (.int .i64 v2)],[]⟩:=by
  unfold base_Size at hr
  have T:=trivial
  apply Spec.fn Tryz.func182 rfl
  focus (simp [Tryz.f182]<;>exact rfl)
  focus
    refine wa_ T (g:=?_)
    apply TO.pop1 (wn T) (pop_neg rfl)
    repeat exact sd T
    refine wa_ T (g:=?_)
    apply TO.pop1 (wn T) (pop_max rfl rfl)
    repeat exact sd T
    refine wa_ T (g:=?_)
    cases hr
    refine ⟨.inr rfl,_,(ry T),?_⟩
    exact wr [] rfl .nil
  rfl

end Go.Rex

namespace Go.Rex
open Go.Proofs
open Go Go.Rex Go.RowKit
set_option maxRecDepth 100000
set_option maxHeartbeats 200000
theorem base_Gcd_spec {v1 : Int} {v2 : Int} {v3 : Int} (hr : base_Gcd v1 v2 = some (v3)) : Spec (lim Tryz.prog) 169 [.v (.int .i64 v1),.v (.int .i64 v2)] ⟨[.v (.int .i64 v3)],[]⟩:=by
  unfold base_Gcd at hr
  have T:=trivial
  apply Spec.fn Tryz.func169 rfl
  focus (simp [Tryz.f169]<;>exact rfl)
  focus
    refine wa_ T (g:=?_)
    obtain ⟨v7,h5,hr⟩:=bs hr
    refine TX.loopE (step:=base_Gcd_l1) (x:=(v1,v2)) h5 (fun (v4,v5)=>⟨.v (.int .i64 v4) :: .v (.int .i64 v5) :: .junk :: .junk :: .junk :: .junk :: .junk :: .junk :: .junk :: .junk :: .junk :: .junk :: .junk :: [],[]⟩) (fun v6=>(.exit 0,⟨.v (.int .i64 v6) :: .junk :: .junk :: .junk :: .junk :: .junk :: .junk :: .junk :: .junk :: .junk :: .junk :: .junk :: .junk :: [],[]⟩)) ?_ ?_ ?_ ?_
    · rintro ⟨v4,v5⟩ v0 hr
      dsimp only [base_Gcd_l1] at hr
      try dsimp only
      refine wa_ T (g:=?_)
      rcases ifs hr with ⟨h3,hr⟩|⟨h3,hr⟩
      · have T:=an h3 T
        refine wa_ T (g:=?_)
        by_cases h4 : v5 = 0
        · rw [if_pos h4] at hr
          cases hr
        · rw [if_neg h4] at hr
          have T:=an h4 T
          refine wa_ T (g:=?_)
          cases hr
          refine ⟨rfl,?_⟩
          exact wk_ T [] rfl .nil
      · have T:=an h3 T
        refine wa_ T (g:=?_)
        cases hr
        refine ⟨rfl,?_⟩
        exact wk_ T [] rfl .nil
    · intro e h;cases h
    · try dsimp only
      refine wa_ T (g:=?_)
      obtain ⟨v8,h6,hr⟩:=bs hr
      apply TO.cal (wn T) rfl goFn182 (base_Size_spec h6) rfl rfl rfl
      repeat exact sd T
      refine wa_ T (g:=?_)
      cases hr
      refine ⟨.inr rfl,_,(ry T),?_⟩
      exact wr [] rfl .nil
    · try dsimp only
      exact wr [] rfl .nil
  rfl

end Go.Rex

namespace Go.Rex
open Go.Proofs
open Go Go.Rex Go.RowKit
set_option maxRecDepth 100000
set_option maxHeartbeats 200000
def y46:=an @ag199 <| an @cs199 <| an @ok199 <| an @st199 <| @zc199
theorem base_Lowest_spec {v1 : Int} {v2 : Int} {v3 : Int} {v4 : Int} (hr : base_Lowest v1 v2 = some (v3,v4)) : Spec (lim Tryz.prog) 153 [.v (.int .i64 v1),.v (.int .i64 v2)] ⟨[.agg [.v (.int .i64 v3),.v (.int .i64 v4)]],[]⟩:=by
  unfold base_Lowest at hr
  have T:=y46
  apply Spec.fn Tryz.func153 rfl
  focus (simp [Tryz.f153]<;>exact rfl)
  focus
    refine wa_ T (g:=?_)
    obtain ⟨v5,h1,hr⟩:=bs hr
    apply TO.cal (wn T) rfl goFn169 (base_Gcd_spec h1) rfl rfl rfl
    repeat exact sd T
    refine wa_ T (g:=?_)
    rcases ifs hr with ⟨h2,hr⟩|⟨h2,hr⟩
    · have T:=an h2 T
      refine wa_ T (g:=?_)
      apply TO.pop1 (wn T) (pop_neg rfl)
      repeat exact sd T
      refine wa_ T (g:=?_)
      by_cases h3 : (IntKind.i64.wrap (0 - v5)) = 0
      · rw [if_pos h3] at hr
        cases hr
      · rw [if_neg h3] at hr
        have T:=an h3 T
        refine wa_ T (g:=?_)
        cases hr
        refine ⟨.inr rfl,_,(ry T),?_⟩
        exact wk_ T [] rfl .nil
    · have T:=an h2 T
      refine wa_ T (g:=?_)
      by_cases h4 : v5 = 0
      · rw [if_pos h4] at hr
        cases hr
      · rw [if_neg h4] at hr
        have T:=an h4 T
        refine wa_ T (g:=?_)
        cases hr
        refine ⟨.inr rfl,_,(ry T),?_⟩
        exact wk_ T [] rfl .nil
  rfl

end Go.Rex

namespace Go.Rex
open Go.Proofs
open Go Go.Rex Go.RowKit
set_option maxRecDepth 100000
set_option maxHeartbeats 200000
def y47:=an @ag3 <| an @ag96 <| an @ar96 <| an @cs199 <| an @cs3 <| an @cs96 <| an @fd199_0 <| an @fd199_1 <| an @ok199 <| an @ok3 <| an @ok96 <| an @st96 <| an @zc199 <| @zc96
theorem ref07_two_spec {v1 : Int} {v2 : Int} {v3 : Int} {v4 : Int} (hr : ref07_two v1 v2 = some (v3,v4)) : Spec (lim Tryz.prog) 115 [.v (.int .i64 v1),.v (.int .i64 v2)] ⟨[.agg [.v (.int .i64 v3),.v (.int .i64 v4)]],[]⟩:=by
  unfold ref07_two at hr
  have T:=y47
  apply Spec.fn Tryz.func115 rfl
  focus (simp [Tryz.f115]<;>exact rfl)
  focus
    refine wa_ T (g:=?_)
    obtain ⟨⟨v5,v6⟩,h1,hr⟩:=bs hr
    try dsimp only at hr
    apply TO.cal (wn T) rfl goFn153 (base_Lowest_spec h1) rfl rfl rfl
    repeat exact sd T
    refine wA T (g:=?_)
    cases hr
    refine ⟨.inr rfl,_,(ry T),?_⟩
    exact wr [] rfl .nil
  rfl

end Go.Rex

namespace Go.Rex
open Go.Proofs
open Go Go.Rex Go.RowKit
set_option maxRecDepth 100000
set_option maxHeartbeats 1000000
def y48:=an @ag3 <| an @ag77 <| an @ag87 <| an @ag96 <| an @ar96 <| an @cs3 <| an @cs87 <| an @cs96 <| an @fd86_0 <| an @fd86_1 <| an @fd89_0 <| an @fd89_1 <| an @ok3 <| an @ok87 <| an @ok96 <| an @so77 <| an @so87 <| an @st96 <| an @zc96 <| @wi64_0a1
theorem ref07_CheckOpen_spec {v1 : (List (List Int))} {v2 : Int} {v3 : Int} {v4 : (List Int)} {v5 : Int} {v6 : Int} {v7 : Int} (hr : ref07_CheckOpen v1 v2 v3 v4 = some (v5,v6,v7)) : Spec (lim Tryz.prog) 57 [.agg [.list 1 (v1.map e_Li_),.v (.int .i64 v2)],.agg [.v (.int .i64 v3),.list 1 (v4.map e_i)]] ⟨[.tuple [.agg [.v (.int .i64 v5),.v (.int .i64 v6)],.v (.int .i64 v7)]],[]⟩:=by
  unfold ref07_CheckOpen at hr
  have T:=an y48 <| an @e_Li_.eq_1 <| @e_i.eq_1
  apply Spec.fn Tryz.func57 rfl
  focus (simp [Tryz.f57]<;>exact rfl)
  focus
    refine wB T (g:=?_)
    obtain ⟨v8,h1,hr⟩:=bs hr
    apply TO.cal (wn T) rfl goFn17 (base_Within_spec h1) rfl rfl rfl
    repeat exact sd T
    refine wa_ T (g:=?_)
    apply TO.pop1 (wn T) (pop_not rfl)
    repeat exact sd T
    refine wa_ T (g:=?_)
    rcases ifs hr with ⟨h2,hr⟩|⟨h2,hr⟩
    · have T:=an h2 T
      refine wC T (g:=?_)
      obtain ⟨v9,h3,hr⟩:=bs hr
      have T:=an (gx e_Li_ h3) T
      refine wC T (g:=?_)
      rcases ifs hr with ⟨h4,hr⟩|⟨h4,hr⟩
      · have T:=an h4 T
        refine wa_ T (g:=?_)
        cases hr
        refine ⟨.inr rfl,_,(ry T),?_⟩
        exact wk_ T [] rfl .nil
      · have T:=an h4 T
        refine wA T (g:=?_)
        obtain ⟨v10,h5,hr⟩:=bs hr
        apply TO.cal (wn T) rfl goFn114 (ref07_within_spec h5) rfl rfl rfl
        repeat exact sd T
        refine wa_ T (g:=?_)
        apply TO.pop1 (wn T) (pop_not rfl)
        repeat exact sd T
        refine wa_ T (g:=?_)
        rcases ifs hr with ⟨h6,hr⟩|⟨h6,hr⟩
        · have T:=an h6 T
          refine wa_ T (g:=?_)
          obtain ⟨v34,h33,hr⟩:=bs hr
          refine TX.loopE (step:=ref07_CheckOpen_l1 v1 v2 v3 v4) (x:=(0,0)) h33 (fun (v11,v12)=>⟨.junk :: .junk :: .fptr true [.list 1 (v1.map e_Li_),.v (.int .i64 v2)] 0 :: .fptr true [.v (.int .i64 v3),.list 1 (v4.map e_i)] 0 :: .lptr 0 0 0 :: .junk :: .v (.int .i64 v11) :: .v (.int .i64 v12) :: .junk :: .junk :: .junk :: .junk :: .junk :: .junk :: .junk :: .junk :: .junk :: .junk :: .junk :: .junk :: .junk :: .junk :: .junk :: .junk :: .junk :: .junk :: .junk :: .junk :: .junk :: .junk :: .junk :: .junk :: .junk :: .junk :: .junk :: .junk :: .junk :: .junk :: .junk :: .junk :: .junk :: .junk :: .junk :: .junk :: .junk :: .junk :: .junk :: .junk :: .junk :: .junk :: .junk :: .junk :: .junk :: .junk :: .junk :: .junk :: .junk :: .junk :: .junk :: .junk :: .junk :: .junk :: .junk :: .junk :: .junk :: .junk :: .junk :: .junk :: .junk :: .junk :: .junk :: .junk :: .junk :: .junk :: .junk :: .junk :: .junk :: .junk :: .junk :: .junk :: .junk :: .junk :: [],[.var [.v (.int .i64 0),.v (.int .i64 0)]]⟩) (fun e=>match e with|(.inl _)=>(.ret,⟨.junk :: .junk :: .junk :: .junk :: .lptr 0 0 0 :: .v (.int .i64 24) :: .junk :: .junk :: .junk :: .junk :: .junk :: .junk :: .junk :: .junk :: .junk :: .junk :: .junk :: .junk :: .junk :: .junk :: .junk :: .junk :: .junk :: .junk :: .junk :: .junk :: .junk :: .junk :: .junk :: .junk :: .junk :: .junk :: .junk :: .junk :: .junk :: .junk :: .junk :: .junk :: .junk :: .junk :: .junk :: .junk :: .junk :: .junk :: .junk :: .junk :: .junk :: .junk :: .junk :: .junk :: .junk :: .junk :: .junk :: .junk :: .junk :: .junk :: .junk :: .junk :: .junk :: .junk :: .junk :: .junk :: .junk :: .junk :: .junk :: .junk :: .junk :: .junk :: .junk :: .junk :: .junk :: .junk :: .junk :: .junk :: .junk :: .junk :: .junk :: .junk :: .junk :: .junk :: .junk :: .junk :: [],[.var [.v (.int .i64 0),.v (.int .i64 0)]]⟩)|(.inr v23)=>(.exit 0,⟨.junk :: .junk :: .junk :: .fptr true [.v (.int .i64 v3),.list 1 (v4.map e_i)] 0 :: .lptr 0 0 0 :: .junk :: .v (.int .i64 v23) :: .junk :: .junk :: .junk :: .junk :: .junk :: .junk :: .junk :: .junk :: .junk :: .junk :: .junk :: .junk :: .junk :: .junk :: .junk :: .junk :: .junk :: .junk :: .junk :: .junk :: .junk :: .junk :: .junk :: .junk :: .junk :: .junk :: .junk :: .junk :: .junk :: .junk :: .junk :: .junk :: .junk :: .junk :: .junk :: .junk :: .junk :: .junk :: .junk :: .junk :: .junk :: .junk :: .junk :: .junk :: .junk :: .junk :: .junk :: .junk :: .junk :: .junk :: .junk :: .junk :: .junk :: .junk :: .junk :: .junk :: .junk :: .junk :: .junk :: .junk :: .junk :: .junk :: .junk :: .junk :: .junk :: .junk :: .junk :: .junk :: .junk :: .junk :: .junk :: .junk :: .junk :: .junk :: .junk :: [],[.var [.v (.int .i64 0),.v (.int .i64 0)]]⟩)) ?_ ?_ ?_ ?_
          · rintro ⟨v11,v12⟩ v0 hr
            dsimp only [ref07_CheckOpen_l1] at hr
            try dsimp only
            refine wC T (g:=?_)
            rcases ifs hr with ⟨h20,hr⟩|⟨h20,hr⟩
            · have T:=an h20 T
              refine wa_ T (g:=?_)
              obtain ⟨v33,h29,hr⟩:=bs hr
              refine TX.loopE (step:=ref07_CheckOpen_l2 v1 v4 v12) (x:=(0,0)) h29 (fun (v24,v25)=>⟨.junk :: .junk :: .fptr true [.list 1 (v1.map e_Li_),.v (.int .i64 v2)] 0 :: .fptr true [.v (.int .i64 v3),.list 1 (v4.map e_i)] 0 :: .lptr 0 0 0 :: .junk :: .v (.int .i64 v11) :: .v (.int .i64 v12) :: .v (.int .i64 v24) :: .v (.int .i64 v25) :: .junk :: .junk :: .junk :: .junk :: .junk :: .junk :: .junk :: .junk :: .junk :: .junk :: .junk :: .junk :: .junk :: .junk :: .junk :: .junk :: .junk :: .junk :: .junk :: .junk :: .junk :: .junk :: .junk :: .junk :: .junk :: .junk :: .junk :: .junk :: .junk :: .junk :: .junk :: .junk :: .junk :: .junk :: .junk :: .junk :: .junk :: .junk :: .junk :: .junk :: .junk :: .junk :: .junk :: .junk :: .junk :: .junk :: .junk :: .junk :: .junk :: .junk :: .junk :: .junk :: .junk :: .junk :: .junk :: .junk :: .junk :: .junk :: .junk :: .junk :: .junk :: .junk :: .junk :: .junk :: .junk :: .junk :: .junk :: .junk :: .junk :: .junk :: .junk :: .junk :: [],[.var [.v (.int .i64 0),.v (.int .i64 0)]]⟩) (fun v29=>(.exit 2,⟨.junk :: .junk :: .fptr true [.list 1 (v1.map e_Li_),.v (.int .i64 v2)] 0 :: .fptr true [.v (.int .i64 v3),.list 1 (v4.map e_i)] 0 :: .lptr 0 0 0 :: .junk :: .v (.int .i64 v11) :: .v (.int .i64 v12) :: .v (.int .i64 v29) :: .junk :: .junk :: .junk :: .junk :: .junk :: .junk :: .junk :: .junk :: .junk :: .junk :: .junk :: .junk :: .junk :: .junk :: .junk :: .junk :: .junk :: .junk :: .junk :: .junk :: .junk :: .junk :: .junk :: .junk :: .junk :: .junk :: .junk :: .junk :: .junk :: .junk :: .junk :: .junk :: .junk :: .junk :: .junk :: .junk :: .junk :: .junk :: .junk :: .junk :: .junk :: .junk :: .junk :: .junk :: .junk :: .junk :: .junk :: .junk :: .junk :: .junk :: .junk :: .junk :: .junk :: .junk :: .junk :: .junk :: .junk :: .junk :: .junk :: .junk :: .junk :: .junk :: .junk :: .junk :: .junk :: .junk :: .junk :: .junk :: .junk :: .junk :: .junk :: .junk :: .junk :: [],[.var [.v (.int .i64 0),.v (.int .i64 0)]]⟩)) ?_ ?_ ?_ ?_
              · rintro ⟨v24,v25⟩ v0 hr
                dsimp only [ref07_CheckOpen_l2] at hr
                try dsimp only
                refine wC T (g:=?_)
                rcases ifs hr with ⟨h25,hr⟩|⟨h25,hr⟩
                · have T:=an h25 T
                  refine wA T (g:=?_)
                  obtain ⟨v30,h26,hr⟩:=bs hr
                  have T:=an (gx e_Li_ h26) T
                  refine wA T (g:=?_)
                  obtain ⟨v31,h27,hr⟩:=bs hr
                  have T:=an (gx e_i h27) T
                  refine wA T (g:=?_)
                  obtain ⟨v32,h28,hr⟩:=bs hr
                  have T:=an (gx e_i h28) T
                  refine wA T (g:=?_)
                  cases hr
                  refine ⟨rfl,?_⟩
                  exact wk_ T [some 0] rfl (rv .nil rfl)
                · have T:=an h25 T
                  refine wa_ T (g:=?_)
                  cases hr
                  refine ⟨rfl,?_⟩
                  exact wk_ T [some 0] rfl (rv .nil rfl)
              · intro e h;cases h
              · try dsimp only
                refine wA T (g:=?_)
                rcases ifs hr with ⟨h30,hr⟩|⟨h30,hr⟩
                · have T:=an h30 T
                  refine wa_ T (g:=?_)
                  cases hr
                  refine ⟨rfl,?_⟩
                  exact wk_ T [some 0] rfl (rv .nil rfl)
                · have T:=an h30 T
                  refine wa_ T (g:=?_)
                  rcases ifs hr with ⟨h31,hr⟩|⟨h31,hr⟩
                  · have T:=an h31 T
                    refine wa_ T (g:=?_)
                    cases hr
                    refine ⟨rfl,?_⟩
                    exact wk_ T [some 0] rfl (rv .nil rfl)
                  · have T:=an h31 T
                    refine wa_ T (g:=?_)
                    rcases ifs hr with ⟨h32,hr⟩|⟨h32,hr⟩
                    · have T:=an h32 T
                      refine wa_ T (g:=?_)
                      cases hr
                      refine ⟨rfl,?_⟩
                      exact wk_ T [some 0] rfl (rv .nil rfl)
                    · have T:=an h32 T
                      refine wa_ T (g:=?_)
                      cases hr
                      refine ⟨rfl,?_⟩
                      exact wk_ T [some 0] rfl (rv .nil rfl)
              · try dsimp only
                exact wk_ T [some 0] rfl (rv .nil rfl)
            · have T:=an h20 T
              refine wa_ T (g:=?_)
              cases hr
              refine ⟨rfl,?_⟩
              exact wk_ T [some 0] rfl (rv .nil rfl)
          · intro e h;rcases e with _|e<;>cases h
          · try dsimp only
            rcases v34 with _|v35
            · try dsimp only at hr
              try dsimp only
              refine wa_ T (g:=?_)
              cases hr
              refine ⟨.inr rfl,_,(ry T),?_⟩
              exact wk_ T [] rfl .nil
            · try dsimp only at hr
              try dsimp only
              refine wA T (g:=?_)
              obtain ⟨⟨v36,v37⟩,h34,hr⟩:=bs hr
              try dsimp only at hr
              apply TO.cal (wn T) rfl goFn115 (ref07_two_spec h34) rfl rfl rfl
              repeat exact sd T
              refine wa_ T (g:=?_)
              cases hr
              refine ⟨.inr rfl,_,(ry T),?_⟩
              exact wk_ T [] rfl .nil
          · try dsimp only
            exact wk_ T [some 0] rfl (rv .nil rfl)
        · have T:=an h6 T
          refine wa_ T (g:=?_)
          cases hr
          refine ⟨.inr rfl,_,(ry T),?_⟩
          exact wk_ T [] rfl .nil
    · have T:=an h2 T
      refine wa_ T (g:=?_)
      cases hr
      refine ⟨.inr rfl,_,(ry T),?_⟩
      exact wk_ T [] rfl .nil
  rfl

end Go.Rex

namespace Go.Rex
open Go.Proofs
open Go Go.Rex Go.RowKit
set_option maxRecDepth 100000
set_option maxHeartbeats 1000000
def y49:=an @ag3 <| an @ag77 <| an @ag87 <| an @ag96 <| an @ar96 <| an @cs3 <| an @cs87 <| an @cs96 <| an @fd86_0 <| an @fd86_1 <| an @fd91_0 <| an @fd91_1 <| an @fd91_2 <| an @fd91_3 <| an @ok3 <| an @ok87 <| an @ok96 <| an @so77 <| an @so87 <| an @st96 <| an @zc96 <| @wi64_0a1
theorem ref07_CheckWeights_spec {v1 : (List (List Int))} {v2 : Int} {v3 : Int} {v4 : (List Int)} {v5 : (List Int)} {v6 : (List Int)} {v7 : Int} {v8 : Int} {v9 : Int} (hr : ref07_CheckWeights v1 v2 v3 v4 v5 v6 = some (v7,v8,v9)) : Spec (lim Tryz.prog) 58 [.agg [.list 1 (v1.map e_Li_),.v (.int .i64 v2)],.agg [.v (.int .i64 v3),.list 1 (v4.map e_i),.list 1 (v5.map e_i),.list 1 (v6.map e_i)]] ⟨[.tuple [.agg [.v (.int .i64 v7),.v (.int .i64 v8)],.v (.int .i64 v9)]],[]⟩:=by
  unfold ref07_CheckWeights at hr
  have T:=an y49 <| an @e_Li_.eq_1 <| @e_i.eq_1
  apply Spec.fn Tryz.func58 rfl
  focus (simp [Tryz.f58]<;>exact rfl)
  focus
    refine wB T (g:=?_)
    obtain ⟨v10,h1,hr⟩:=bs hr
    apply TO.cal (wn T) rfl goFn17 (base_Within_spec h1) rfl rfl rfl
    repeat exact sd T
    refine wa_ T (g:=?_)
    apply TO.pop1 (wn T) (pop_not rfl)
    repeat exact sd T
    refine wa_ T (g:=?_)
    rcases ifs hr with ⟨h2,hr⟩|⟨h2,hr⟩
    · have T:=an h2 T
      refine wC T (g:=?_)
      rcases ifs hr with ⟨h3,hr⟩|⟨h3,hr⟩
      · have T:=an h3 T
        refine wa_ T (g:=?_)
        cases hr
        refine ⟨.inr rfl,_,(ry T),?_⟩
        exact wk_ T [] rfl .nil
      · have T:=an h3 T
        refine wC T (g:=?_)
        rcases ifs hr with ⟨h4,hr⟩|⟨h4,hr⟩
        · have T:=an h4 T
          refine wa_ T (g:=?_)
          cases hr
          refine ⟨.inr rfl,_,(ry T),?_⟩
          exact wk_ T [] rfl .nil
        · have T:=an h4 T
          refine wC T (g:=?_)
          obtain ⟨v11,h5,hr⟩:=bs hr
          have T:=an (gx e_Li_ h5) T
          refine wC T (g:=?_)
          rcases ifs hr with ⟨h6,hr⟩|⟨h6,hr⟩
          · have T:=an h6 T
            refine wa_ T (g:=?_)
            cases hr
            refine ⟨.inr rfl,_,(ry T),?_⟩
            exact wk_ T [] rfl .nil
          · have T:=an h6 T
            refine wA T (g:=?_)
            obtain ⟨v12,h7,hr⟩:=bs hr
            apply TO.cal (wn T) rfl goFn114 (ref07_within_spec h7) rfl rfl rfl
            repeat exact sd T
            refine wa_ T (g:=?_)
            apply TO.pop1 (wn T) (pop_not rfl)
            repeat exact sd T
            refine wa_ T (g:=?_)
            rcases ifs hr with ⟨h8,hr⟩|⟨h8,hr⟩
            · have T:=an h8 T
              refine wA T (g:=?_)
              obtain ⟨v13,h9,hr⟩:=bs hr
              apply TO.cal (wn T) rfl goFn114 (ref07_within_spec h9) rfl rfl rfl
              repeat exact sd T
              refine wa_ T (g:=?_)
              apply TO.pop1 (wn T) (pop_not rfl)
              repeat exact sd T
              refine wa_ T (g:=?_)
              rcases ifs hr with ⟨h10,hr⟩|⟨h10,hr⟩
              · have T:=an h10 T
                refine wA T (g:=?_)
                obtain ⟨v14,h11,hr⟩:=bs hr
                apply TO.cal (wn T) rfl goFn114 (ref07_within_spec h11) rfl rfl rfl
                repeat exact sd T
                refine wa_ T (g:=?_)
                apply TO.pop1 (wn T) (pop_not rfl)
                repeat exact sd T
                refine wa_ T (g:=?_)
                rcases ifs hr with ⟨h12,hr⟩|⟨h12,hr⟩
                · have T:=an h12 T
                  refine wa_ T (g:=?_)
                  obtain ⟨⟨v24,v25⟩,h19,hr⟩:=bs hr
                  try dsimp only at hr
                  refine TX.loopE (step:=ref07_CheckWeights_l1 v2 v4 v5) (x:=(0,0,0)) h19 (fun (v15,v16,v17)=>⟨.junk :: .junk :: .fptr true [.list 1 (v1.map e_Li_),.v (.int .i64 v2)] 0 :: .fptr true [.v (.int .i64 v3),.list 1 (v4.map e_i),.list 1 (v5.map e_i),.list 1 (v6.map e_i)] 0 :: .lptr 0 0 0 :: .junk :: .v (.int .i64 v15) :: .v (.int .i64 v16) :: .v (.int .i64 v17) :: .junk :: .junk :: .junk :: .junk :: .junk :: .junk :: .junk :: .junk :: .junk :: .junk :: .junk :: .junk :: .junk :: .junk :: .junk :: .junk :: .junk :: .junk :: .junk :: .junk :: .junk :: .junk :: .junk :: .junk :: .junk :: .junk :: .junk :: .junk :: .junk :: .junk :: .junk :: .junk :: .junk :: .junk :: .junk :: .junk :: .junk :: .junk :: .junk :: .junk :: .junk :: .junk :: .junk :: .junk :: .junk :: .junk :: .junk :: .junk :: .junk :: .junk :: .junk :: .junk :: .junk :: .junk :: .junk :: .junk :: .junk :: .junk :: .junk :: .junk :: .junk :: .junk :: .junk :: .junk :: .junk :: .junk :: .junk :: .junk :: .junk :: .junk :: .junk :: .junk :: .junk :: .junk :: .junk :: .junk :: .junk :: .junk :: .junk :: .junk :: .junk :: .junk :: .junk :: .junk :: .junk :: .junk :: .junk :: .junk :: .junk :: .junk :: .junk :: .junk :: .junk :: .junk :: .junk :: .junk :: .junk :: .junk :: .junk :: .junk :: .junk :: .junk :: .junk :: .junk :: .junk :: .junk :: .junk :: .junk :: .junk :: .junk :: .junk :: .junk :: .junk :: .junk :: .junk :: .junk :: .junk :: .junk :: .junk :: .junk :: .junk :: .junk :: .junk :: .junk :: .junk :: .junk :: .junk :: .junk :: .junk :: .junk :: .junk :: .junk :: .junk :: .junk :: .junk :: .junk :: .junk :: [],[.var [.v (.int .i64 0),.v (.int .i64 0)]]⟩) (fun (v20,v21)=>(.exit 0,⟨.junk :: .junk :: .fptr true [.list 1 (v1.map e_Li_),.v (.int .i64 v2)] 0 :: .fptr true [.v (.int .i64 v3),.list 1 (v4.map e_i),.list 1 (v5.map e_i),.list 1 (v6.map e_i)] 0 :: .lptr 0 0 0 :: .junk :: .v (.int .i64 v20) :: .v (.int .i64 v21) :: .junk :: .junk :: .junk :: .junk :: .junk :: .junk :: .junk :: .junk :: .junk :: .junk :: .junk :: .junk :: .junk :: .junk :: .junk :: .junk :: .junk :: .junk :: .junk :: .junk :: .junk :: .junk :: .junk :: .junk :: .junk :: .junk :: .junk :: .junk :: .junk :: .junk :: .junk :: .junk :: .junk :: .junk :: .junk :: .junk :: .junk :: .junk :: .junk :: .junk :: .junk :: .junk :: .junk :: .junk :: .junk :: .junk :: .junk :: .junk :: .junk :: .junk :: .junk :: .junk :: .junk :: .junk :: .junk :: .junk :: .junk :: .junk :: .junk :: .junk :: .junk :: .junk :: .junk :: .junk :: .junk :: .junk :: .junk :: .junk :: .junk :: .junk :: .junk :: .junk :: .junk :: .junk :: .junk :: .junk :: .junk :: .junk :: .junk :: .junk :: .junk :: .junk :: .junk :: .junk :: .junk :: .junk :: .junk :: .junk :: .junk :: .junk :: .junk :: .junk :: .junk :: .junk :: .junk :: .junk :: .junk :: .junk :: .junk :: .junk :: .junk :: .junk :: .junk :: .junk :: .junk :: .junk :: .junk :: .junk :: .junk :: .junk :: .junk :: .junk :: .junk :: .junk :: .junk :: .junk :: .junk :: .junk :: .junk :: .junk :: .junk :: .junk :: .junk :: .junk :: .junk :: .junk :: .junk :: .junk :: .junk :: .junk :: .junk :: .junk :: .junk :: .junk :: .junk :: .junk :: .junk :: .junk :: [],[.var [.v (.int .i64 0),.v (.int .i64 0)]]⟩)) ?_ ?_ ?_ ?_
                  · rintro ⟨v15,v16,v17⟩ v0 hr
                    dsimp only [ref07_CheckWeights_l1] at hr
                    try dsimp only
                    refine wC T (g:=?_)
                    rcases ifs hr with ⟨h16,hr⟩|⟨h16,hr⟩
                    · have T:=an h16 T
                      refine wA T (g:=?_)
                      obtain ⟨v22,h17,hr⟩:=bs hr
                      have T:=an (gx e_i h17) T
                      refine wA T (g:=?_)
                      obtain ⟨v23,h18,hr⟩:=bs hr
                      have T:=an (gx e_i h18) T
                      refine wA T (g:=?_)
                      cases hr
                      refine ⟨rfl,?_⟩
                      exact wk_ T [some 0] rfl (rv .nil rfl)
                    · have T:=an h16 T
                      refine wa_ T (g:=?_)
                      cases hr
                      refine ⟨rfl,?_⟩
                      exact wk_ T [some 0] rfl (rv .nil rfl)
                  · intro e h;cases h
                  · try dsimp only
                    refine wA T (g:=?_)
                    rcases ifs hr with ⟨h20,hr⟩|⟨h20,hr⟩
                    · have T:=an h20 T
                      refine wa_ T (g:=?_)
                      cases hr
                      refine ⟨.inr rfl,_,(ry T),?_⟩
                      exact wk_ T [] rfl .nil
                    · have T:=an h20 T
                      refine wa_ T (g:=?_)
                      obtain ⟨v55,h49,hr⟩:=bs hr
                      refine TX.loopE (step:=ref07_CheckWeights_l2 v1 v4 v5 v6) (x:=(v25,0)) h49 (fun (v26,v27)=>⟨.junk :: .junk :: .fptr true [.list 1 (v1.map e_Li_),.v (.int .i64 v2)] 0 :: .fptr true [.v (.int .i64 v3),.list 1 (v4.map e_i),.list 1 (v5.map e_i),.list 1 (v6.map e_i)] 0 :: .lptr 0 0 0 :: .junk :: .junk :: .v (.int .i64 v26) :: .junk :: .v (.int .i64 v27) :: .junk :: .junk :: .junk :: .junk :: .junk :: .junk :: .junk :: .junk :: .junk :: .junk :: .junk :: .junk :: .junk :: .junk :: .junk :: .junk :: .junk :: .junk :: .junk :: .junk :: .junk :: .junk :: .junk :: .junk :: .junk :: .junk :: .junk :: .junk :: .junk :: .junk :: .junk :: .junk :: .junk :: .junk :: .junk :: .junk :: .junk :: .junk :: .junk :: .junk :: .junk :: .junk :: .junk :: .junk :: .junk :: .junk :: .junk :: .junk :: .junk :: .junk :: .junk :: .junk :: .junk :: .junk :: .junk :: .junk :: .junk :: .junk :: .junk :: .junk :: .junk :: .junk :: .junk :: .junk :: .junk :: .junk :: .junk :: .junk :: .junk :: .junk :: .junk :: .junk :: .junk :: .junk :: .junk :: .junk :: .junk :: .junk :: .junk :: .junk :: .junk :: .junk :: .junk :: .junk :: .junk :: .junk :: .junk :: .junk :: .junk :: .junk :: .junk :: .junk :: .junk :: .junk :: .junk :: .junk :: .junk :: .junk :: .junk :: .junk :: .junk :: .junk :: .junk :: .junk :: .junk :: .junk :: .junk :: .junk :: .junk :: .junk :: .junk :: .junk :: .junk :: .junk :: .junk :: .junk :: .junk :: .junk :: .junk :: .junk :: .junk :: .junk :: .junk :: .junk :: .junk :: .junk :: .junk :: .junk :: .junk :: .junk :: .junk :: .junk :: .junk :: .junk :: .junk :: .junk :: [],[.var [.v (.int .i64 0),.v (.int .i64 0)]]⟩) (fun e=>match e with|(.inl _)=>(.ret,⟨.junk :: .junk :: .junk :: .junk :: .lptr 0 0 0 :: .v (.int .i64 20) :: .junk :: .junk :: .junk :: .junk :: .junk :: .junk :: .junk :: .junk :: .junk :: .junk :: .junk :: .junk :: .junk :: .junk :: .junk :: .junk :: .junk :: .junk :: .junk :: .junk :: .junk :: .junk :: .junk :: .junk :: .junk :: .junk :: .junk :: .junk :: .junk :: .junk :: .junk :: .junk :: .junk :: .junk :: .junk :: .junk :: .junk :: .junk :: .junk :: .junk :: .junk :: .junk :: .junk :: .junk :: .junk :: .junk :: .junk :: .junk :: .junk :: .junk :: .junk :: .junk :: .junk :: .junk :: .junk :: .junk :: .junk :: .junk :: .junk :: .junk :: .junk :: .junk :: .junk :: .junk :: .junk :: .junk :: .junk :: .junk :: .junk :: .junk :: .junk :: .junk :: .junk :: .junk :: .junk :: .junk :: .junk :: .junk :: .junk :: .junk :: .junk :: .junk :: .junk :: .junk :: .junk :: .junk :: .junk :: .junk :: .junk :: .junk :: .junk :: .junk :: .junk :: .junk :: .junk :: .junk :: .junk :: .junk :: .junk :: .junk :: .junk :: .junk :: .junk :: .junk :: .junk :: .junk :: .junk :: .junk :: .junk :: .junk :: .junk :: .junk :: .junk :: .junk :: .junk :: .junk :: .junk :: .junk :: .junk :: .junk :: .junk :: .junk :: .junk :: .junk :: .junk :: .junk :: .junk :: .junk :: .junk :: .junk :: .junk :: .junk :: .junk :: .junk :: .junk :: .junk :: .junk :: .junk :: .junk :: .junk :: [],[.var [.v (.int .i64 0),.v (.int .i64 0)]]⟩)|(.inr v41)=>(.exit 2,⟨.junk :: .junk :: .junk :: .fptr true [.v (.int .i64 v3),.list 1 (v4.map e_i),.list 1 (v5.map e_i),.list 1 (v6.map e_i)] 0 :: .lptr 0 0 0 :: .junk :: .junk :: .v (.int .i64 v41) :: .junk :: .junk :: .junk :: .junk :: .junk :: .junk :: .junk :: .junk :: .junk :: .junk :: .junk :: .junk :: .junk :: .junk :: .junk :: .junk :: .junk :: .junk :: .junk :: .junk :: .junk :: .junk :: .junk :: .junk :: .junk :: .junk :: .junk :: .junk :: .junk :: .junk :: .junk :: .junk :: .junk :: .junk :: .junk :: .junk :: .junk :: .junk :: .junk :: .junk :: .junk :: .junk :: .junk :: .junk :: .junk :: .junk :: .junk :: .junk :: .junk :: .junk :: .junk :: .junk :: .junk :: .junk :: .junk :: .junk :: .junk :: .junk :: .junk :: .junk :: .junk :: .junk :: .junk :: .junk :: .junk :: .junk :: .junk :: .junk :: .junk :: .junk :: .junk :: .junk :: .junk :: .junk :: .junk :: .junk :: .junk :: .junk :: .junk :: .junk :: .junk :: .junk :: .junk :: .junk :: .junk :: .junk :: .junk :: .junk :: .junk :: .junk :: .junk :: .junk :: .junk :: .junk :: .junk :: .junk :: .junk :: .junk :: .junk :: .junk :: .junk :: .junk :: .junk :: .junk :: .junk :: .junk :: .junk :: .junk :: .junk :: .junk :: .junk :: .junk :: .junk :: .junk :: .junk :: .junk :: .junk :: .junk :: .junk :: .junk :: .junk :: .junk :: .junk :: .junk :: .junk :: .junk :: .junk :: .junk :: .junk :: .junk :: .junk :: .junk :: .junk :: .junk :: .junk :: .junk :: .junk :: .junk :: [],[.var [.v (.int .i64 0),.v (.int .i64 0)]]⟩)) ?_ ?_ ?_ ?_
                      · rintro ⟨v26,v27⟩ v0 hr
                        dsimp only [ref07_CheckWeights_l2] at hr
                        try dsimp only
                        refine wC T (g:=?_)
                        rcases ifs hr with ⟨h35,hr⟩|⟨h35,hr⟩
                        · have T:=an h35 T
                          refine wa_ T (g:=?_)
                          obtain ⟨v53,h46,hr⟩:=bs hr
                          refine TX.loopE (step:=ref07_CheckWeights_l3 v1 v4 v5 v27) (x:=(0,0)) h46 (fun (v42,v43)=>⟨.junk :: .junk :: .fptr true [.list 1 (v1.map e_Li_),.v (.int .i64 v2)] 0 :: .fptr true [.v (.int .i64 v3),.list 1 (v4.map e_i),.list 1 (v5.map e_i),.list 1 (v6.map e_i)] 0 :: .lptr 0 0 0 :: .junk :: .junk :: .v (.int .i64 v26) :: .junk :: .v (.int .i64 v27) :: .v (.int .i64 v42) :: .v (.int .i64 v43) :: .junk :: .junk :: .junk :: .junk :: .junk :: .junk :: .junk :: .junk :: .junk :: .junk :: .junk :: .junk :: .junk :: .junk :: .junk :: .junk :: .junk :: .junk :: .junk :: .junk :: .junk :: .junk :: .junk :: .junk :: .junk :: .junk :: .junk :: .junk :: .junk :: .junk :: .junk :: .junk :: .junk :: .junk :: .junk :: .junk :: .junk :: .junk :: .junk :: .junk :: .junk :: .junk :: .junk :: .junk :: .junk :: .junk :: .junk :: .junk :: .junk :: .junk :: .junk :: .junk :: .junk :: .junk :: .junk :: .junk :: .junk :: .junk :: .junk :: .junk :: .junk :: .junk :: .junk :: .junk :: .junk :: .junk :: .junk :: .junk :: .junk :: .junk :: .junk :: .junk :: .junk :: .junk :: .junk :: .junk :: .junk :: .junk :: .junk :: .junk :: .junk :: .junk :: .junk :: .junk :: .junk :: .junk :: .junk :: .junk :: .junk :: .junk :: .junk :: .junk :: .junk :: .junk :: .junk :: .junk :: .junk :: .junk :: .junk :: .junk :: .junk :: .junk :: .junk :: .junk :: .junk :: .junk :: .junk :: .junk :: .junk :: .junk :: .junk :: .junk :: .junk :: .junk :: .junk :: .junk :: .junk :: .junk :: .junk :: .junk :: .junk :: .junk :: .junk :: .junk :: .junk :: .junk :: .junk :: .junk :: .junk :: .junk :: .junk :: .junk :: .junk :: .junk :: [],[.var [.v (.int .i64 0),.v (.int .i64 0)]]⟩) (fun v48=>(.exit 4,⟨.junk :: .junk :: .fptr true [.list 1 (v1.map e_Li_),.v (.int .i64 v2)] 0 :: .fptr true [.v (.int .i64 v3),.list 1 (v4.map e_i),.list 1 (v5.map e_i),.list 1 (v6.map e_i)] 0 :: .lptr 0 0 0 :: .junk :: .junk :: .v (.int .i64 v26) :: .junk :: .v (.int .i64 v27) :: .v (.int .i64 v48) :: .junk :: .junk :: .junk :: .junk :: .junk :: .junk :: .junk :: .junk :: .junk :: .junk :: .junk :: .junk :: .junk :: .junk :: .junk :: .junk :: .junk :: .junk :: .junk :: .junk :: .junk :: .junk :: .junk :: .junk :: .junk :: .junk :: .junk :: .junk :: .junk :: .junk :: .junk :: .junk :: .junk :: .junk :: .junk :: .junk :: .junk :: .junk :: .junk :: .junk :: .junk :: .junk :: .junk :: .junk :: .junk :: .junk :: .junk :: .junk :: .junk :: .junk :: .junk :: .junk :: .junk :: .junk :: .junk :: .junk :: .junk :: .junk :: .junk :: .junk :: .junk :: .junk :: .junk :: .junk :: .junk :: .junk :: .junk :: .junk :: .junk :: .junk :: .junk :: .junk :: .junk :: .junk :: .junk :: .junk :: .junk :: .junk :: .junk :: .junk :: .junk :: .junk :: .junk :: .junk :: .junk :: .junk :: .junk :: .junk :: .junk :: .junk :: .junk :: .junk :: .junk :: .junk :: .junk :: .junk :: .junk :: .junk :: .junk :: .junk :: .junk :: .junk :: .junk :: .junk :: .junk :: .junk :: .junk :: .junk :: .junk :: .junk :: .junk :: .junk :: .junk :: .junk :: .junk :: .junk :: .junk :: .junk :: .junk :: .junk :: .junk :: .junk :: .junk :: .junk :: .junk :: .junk :: .junk :: .junk :: .junk :: .junk :: .junk :: .junk :: .junk :: .junk :: .junk :: [],[.var [.v (.int .i64 0),.v (.int .i64 0)]]⟩)) ?_ ?_ ?_ ?_
                          · rintro ⟨v42,v43⟩ v0 hr
                            dsimp only [ref07_CheckWeights_l3] at hr
                            try dsimp only
                            refine wC T (g:=?_)
                            rcases ifs hr with ⟨h41,hr⟩|⟨h41,hr⟩
                            · have T:=an h41 T
                              refine wA T (g:=?_)
                              obtain ⟨v49,h42,hr⟩:=bs hr
                              have T:=an (gx e_i h42) T
                              refine wA T (g:=?_)
                              obtain ⟨v50,h43,hr⟩:=bs hr
                              have T:=an (gx e_i h43) T
                              refine wA T (g:=?_)
                              obtain ⟨v51,h44,hr⟩:=bs hr
                              have T:=an (gx e_Li_ h44) T
                              refine wA T (g:=?_)
                              obtain ⟨v52,h45,hr⟩:=bs hr
                              have T:=an (gx e_i h45) T
                              refine wA T (g:=?_)
                              cases hr
                              refine ⟨rfl,?_⟩
                              exact wk_ T [some 0] rfl (rv .nil rfl)
                            · have T:=an h41 T
                              refine wa_ T (g:=?_)
                              cases hr
                              refine ⟨rfl,?_⟩
                              exact wk_ T [some 0] rfl (rv .nil rfl)
                          · intro e h;cases h
                          · try dsimp only
                            refine wA T (g:=?_)
                            obtain ⟨v54,h47,hr⟩:=bs hr
                            have T:=an (gx e_i h47) T
                            refine wA T (g:=?_)
                            rcases ifs hr with ⟨h48,hr⟩|⟨h48,hr⟩
                            · have T:=an h48 T
                              refine wa_ T (g:=?_)
                              cases hr
                              refine ⟨rfl,?_⟩
                              exact wk_ T [some 0] rfl (rv .nil rfl)
                            · have T:=an h48 T
                              refine wA T (g:=?_)
                              cases hr
                              refine ⟨rfl,?_⟩
                              exact wk_ T [some 0] rfl (rv .nil rfl)
                          · try dsimp only
                            exact wk_ T [some 0] rfl (rv .nil rfl)
                        · have T:=an h35 T
                          refine wa_ T (g:=?_)
                          cases hr
                          refine ⟨rfl,?_⟩
                          exact wk_ T [some 0] rfl (rv .nil rfl)
                      · intro e h;rcases e with _|e<;>cases h
                      · try dsimp only
                        rcases v55 with _|v56
                        · try dsimp only at hr
                          try dsimp only
                          refine wa_ T (g:=?_)
                          cases hr
                          refine ⟨.inr rfl,_,(ry T),?_⟩
                          exact wk_ T [] rfl .nil
                        · try dsimp only at hr
                          try dsimp only
                          refine wA T (g:=?_)
                          obtain ⟨⟨v57,v58⟩,h50,hr⟩:=bs hr
                          try dsimp only at hr
                          apply TO.cal (wn T) rfl goFn115 (ref07_two_spec h50) rfl rfl rfl
                          repeat exact sd T
                          refine wa_ T (g:=?_)
                          cases hr
                          refine ⟨.inr rfl,_,(ry T),?_⟩
                          exact wk_ T [] rfl .nil
                      · try dsimp only
                        exact wk_ T [some 0] rfl (rv .nil rfl)
                  · try dsimp only
                    exact wk_ T [some 0] rfl (rv .nil rfl)
                · have T:=an h12 T
                  refine wa_ T (g:=?_)
                  cases hr
                  refine ⟨.inr rfl,_,(ry T),?_⟩
                  exact wk_ T [] rfl .nil
              · have T:=an h10 T
                refine wa_ T (g:=?_)
                cases hr
                refine ⟨.inr rfl,_,(ry T),?_⟩
                exact wk_ T [] rfl .nil
            · have T:=an h8 T
              refine wa_ T (g:=?_)
              cases hr
              refine ⟨.inr rfl,_,(ry T),?_⟩
              exact wk_ T [] rfl .nil
    · have T:=an h2 T
      refine wa_ T (g:=?_)
      cases hr
      refine ⟨.inr rfl,_,(ry T),?_⟩
      exact wk_ T [] rfl .nil
  rfl

end Go.Rex

namespace Go.Rex
open Go.Proofs
open Go Go.Rex Go.RowKit
set_option maxRecDepth 100000
set_option maxHeartbeats 200000
theorem base_Floor_spec {v1 : Int} {v2 : Int} {v3 : Int} (hr : base_Floor v1 v2 = some (v3)) : Spec (lim Tryz.prog) 81 [.v (.int .i64 v1),.v (.int .i64 v2)] ⟨[.v (.int .i64 v3)],[]⟩:=by
  unfold base_Floor at hr
  have T:=trivial
  apply Spec.fn Tryz.func81 rfl
  focus (simp [Tryz.f81]<;>exact rfl)
  focus
    refine wa_ T (g:=?_)
    by_cases h1 : v2 = 0
    · rw [if_pos h1] at hr
      cases hr
    · rw [if_neg h1] at hr
      have T:=an h1 T
      refine wa_ T (g:=?_)
      rcases ifs hr with ⟨h2,hr⟩|⟨h2,hr⟩
      · have T:=an h2 T
        refine wa_ T (g:=?_)
        cases hr
        refine ⟨.inr rfl,_,(ry T),?_⟩
        exact wk_ T [] rfl .nil
      · have T:=an h2 T
        refine wa_ T (g:=?_)
        cases hr
        refine ⟨.inr rfl,_,(ry T),?_⟩
        exact wk_ T [] rfl .nil
  rfl

end Go.Rex

namespace Go.Rex
open Go.Proofs
open Go Go.Rex Go.RowKit
set_option maxRecDepth 100000
set_option maxHeartbeats 200000
theorem base_Compare_spec {v1 : Int} {v2 : Int} {v3 : Int} {v4 : Int} {v5 : Int} (hr : base_Compare v1 v2 v3 v4 = some (v5)) : Spec (lim Tryz.prog) 59 [.v (.int .i64 v1),.v (.int .i64 v2),.v (.int .i64 v3),.v (.int .i64 v4)] ⟨[.v (.int .i64 v5)],[]⟩:=by
  unfold base_Compare at hr
  have T:=trivial
  apply Spec.fn Tryz.func59 rfl
  focus (simp [Tryz.f59]<;>exact rfl)
  focus
    refine wa_ T (g:=?_)
    obtain ⟨v15,h15,hr⟩:=bs hr
    refine TX.loopE (step:=base_Compare_l1) (x:=(v1,v2,v3,v4)) h15 (fun (v6,v7,v8,v9)=>⟨.v (.int .i64 v6) :: .v (.int .i64 v7) :: .v (.int .i64 v8) :: .v (.int .i64 v9) :: .junk :: .junk :: .junk :: .junk :: .junk :: .junk :: .junk :: .junk :: .junk :: .junk :: .junk :: .junk :: .junk :: .junk :: .junk :: .junk :: .junk :: .junk :: .junk :: .junk :: .junk :: .junk :: .junk :: .junk :: .junk :: .junk :: .junk :: .junk :: .junk :: .junk :: .junk :: .junk :: .junk :: .junk :: .junk :: .junk :: .junk :: .junk :: .junk :: .junk :: .junk :: .junk :: .junk :: [],[]⟩) (fun v12=>(.ret,⟨.junk :: .junk :: .junk :: .junk :: .junk :: .junk :: .junk :: .junk :: .v (.int .i64 v12) :: .junk :: .junk :: .junk :: .junk :: .junk :: .junk :: .junk :: .junk :: .junk :: .junk :: .junk :: .junk :: .junk :: .junk :: .junk :: .junk :: .junk :: .junk :: .junk :: .junk :: .junk :: .junk :: .junk :: .junk :: .junk :: .junk :: .junk :: .junk :: .junk :: .junk :: .junk :: .junk :: .junk :: .junk :: .junk :: .junk :: .junk :: .junk :: [],[]⟩)) ?_ ?_ ?_ ?_
    · rintro ⟨v6,v7,v8,v9⟩ v0 hr
      dsimp only [base_Compare_l1] at hr
      try dsimp only
      refine wa_ T (g:=?_)
      obtain ⟨v13,h8,hr⟩:=bs hr
      apply TO.cal (wn T) rfl goFn81 (base_Floor_spec h8) rfl rfl rfl
      repeat exact sd T
      refine wa_ T (g:=?_)
      obtain ⟨v14,h9,hr⟩:=bs hr
      apply TO.cal (wn T) rfl goFn81 (base_Floor_spec h9) rfl rfl rfl
      repeat exact sd T
      refine wa_ T (g:=?_)
      rcases ifs hr with ⟨h10,hr⟩|⟨h10,hr⟩
      · have T:=an h10 T
        refine wa_ T (g:=?_)
        cases hr
        refine ⟨rfl,?_⟩
        exact wk_ T [] rfl .nil
      · have T:=an h10 T
        refine wa_ T (g:=?_)
        rcases ifs hr with ⟨h11,hr⟩|⟨h11,hr⟩
        · have T:=an h11 T
          refine wa_ T (g:=?_)
          cases hr
          refine ⟨rfl,?_⟩
          exact wk_ T [] rfl .nil
        · have T:=an h11 T
          refine wa_ T (g:=?_)
          rcases ifs hr with ⟨h12,hr⟩|⟨h12,hr⟩
          · have T:=an h12 T
            refine wa_ T (g:=?_)
            rcases ifs hr with ⟨h13,hr⟩|⟨h13,hr⟩
            · have T:=an h13 T
              refine wa_ T (g:=?_)
              cases hr
              refine ⟨rfl,?_⟩
              exact wk_ T [] rfl .nil
            · have T:=an h13 T
              refine wa_ T (g:=?_)
              cases hr
              refine ⟨rfl,?_⟩
              exact wk_ T [] rfl .nil
          · have T:=an h12 T
            refine wa_ T (g:=?_)
            rcases ifs hr with ⟨h14,hr⟩|⟨h14,hr⟩
            · have T:=an h14 T
              refine wa_ T (g:=?_)
              cases hr
              refine ⟨rfl,?_⟩
              exact wk_ T [] rfl .nil
            · have T:=an h14 T
              refine wa_ T (g:=?_)
              cases hr
              refine ⟨rfl,?_⟩
              exact wk_ T [] rfl .nil
    · intro e h;cases h
    · try dsimp only
      refine wa_ T (g:=?_)
      cases hr
      refine ⟨.inr rfl,_,(ry T),?_⟩
      exact wr [] rfl .nil
    · try dsimp only
      exact wr [] rfl .nil
  rfl

end Go.Rex

namespace Go.Rex
open Go.Proofs
open Go Go.Rex Go.RowKit
set_option maxRecDepth 100000

end Go.Rex

namespace Go.Rex
open Go.Proofs
open Go Go.Rex Go.RowKit
set_option maxRecDepth 100000
set_option maxHeartbeats 4000000
def y50:=an @ag3 <| an @ag86 <| an @ag89 <| an @ag91 <| an @ag93 <| an @ag96 <| an @ar96 <| an @cs3 <| an @cs86 <| an @cs89 <| an @cs91 <| an @cs93 <| an @cs96 <| an @eqg96 <| an @eqs96 <| an @fd93_0 <| an @fd93_1 <| an @ok3 <| an @ok86 <| an @ok89 <| an @ok91 <| an @ok93 <| an @ok96 <| an @so96 <| an @st96 <| @zc96
theorem law07_ArrayClaims_law {v1 : (List (List Int))} {v2 : Int} {v3 : Int} {v4 : (List Int)} {v5 : Int} {v6 : (List Int)} {v7 : (List Int)} {v8 : (List Int)} {v9 : Int} (hr : law07_ArrayClaims v1 v2 v3 v4 v5 v6 v7 v8 v9 = some true) {Fz : Nat → Prop} {h : List Blk} {vs : List Value} (hfz : ∀ n, Fz n → n < h.length) (hargs : VLs Fz h noL [.agg [.list 1 (v1.map e_Li_), .v (.int .i64 v2)], .agg [.v (.int .i64 v3), .list 1 (v4.map e_i), .v (.int .i64 v5), .list 1 (v6.map e_i), .list 1 (v7.map e_i), .list 1 (v8.map e_i)], .v (.int .i64 v9)] vs)
    {B lo : Nat} {D : Nat → Prop} {m : NMap} {w : World} {args' : List Value} (hrel : Rel B lo D m h w) (hlo : lo ≤ h.length) (hargs' : VRs D m vs args') : Calls Tryz.prog 10 ⟨args'⟩ w (fun e w'=>e = .returned (.bool true) ∧ Below w.heap.size w w'):=by
  unfold law07_ArrayClaims at hr
  have T:=an y50 <| an @e_Li_.eq_1 <| @e_i.eq_1
  refine law_tex follows awake_true Tryz.func10 rfl (tm0:=.agg [.list 1 (v1.map e_Li_),.v (.int .i64 v2)] :: .agg [.v (.int .i64 v3),.list 1 (v4.map e_i),.v (.int .i64 v5),.list 1 (v6.map e_i),.list 1 (v7.map e_i),.list 1 (v8.map e_i)] :: .v (.int .i64 v9) :: .junk :: .junk :: .junk :: .junk :: .junk :: .junk :: .junk :: .junk :: .junk :: .junk :: .junk :: .junk :: .junk :: .junk :: .junk :: .junk :: .junk :: .junk :: .junk :: .junk :: .junk :: .junk :: .junk :: .junk :: .junk :: .junk :: .junk :: .junk :: .junk :: .junk :: .junk :: .junk :: .junk :: .junk :: .junk :: .junk :: .junk :: .junk :: .junk :: .junk :: .junk :: .junk :: .junk :: .junk :: .junk :: .junk :: .junk :: .junk :: .junk :: .junk :: .junk :: .junk :: .junk :: .junk :: .junk :: .junk :: .junk :: .junk :: .junk :: .junk :: .junk :: .junk :: .junk :: .junk :: .junk :: .junk :: .junk :: .junk :: .junk :: .junk :: .junk :: .junk :: .junk :: .junk :: .junk :: .junk :: .junk :: .junk :: .junk :: .junk :: .junk :: .junk :: .junk :: .junk :: .junk :: .junk :: .junk :: .junk :: .junk :: .junk :: .junk :: .junk :: .junk :: .junk :: .junk :: .junk :: .junk :: .junk :: .junk :: .junk :: .junk :: .junk :: .junk :: .junk :: .junk :: .junk :: .junk :: .junk :: .junk :: .junk :: .junk :: .junk :: .junk :: .junk :: .junk :: .junk :: .junk :: .junk :: .junk :: .junk :: .junk :: .junk :: .junk :: .junk :: .junk :: .junk :: .junk :: .junk :: .junk :: .junk :: .junk :: .junk :: .junk :: .junk :: .junk :: .junk :: .junk :: .junk :: .junk :: .junk :: .junk :: .junk :: .junk :: .junk :: .junk :: .junk :: .junk :: .junk :: .junk :: .junk :: .junk :: []) (by simp [Tryz.f10]<;>exact rfl) ?_ hfz hargs hrel hlo hargs'
  refine wb_ T (g:=?_)
  apply TO.cal (wn T) rfl goFn11 Spec.awake rfl rfl rfl
  repeat exact sd T
  refine wa_ T (g:=?_)
  apply TO.pop1 (wn T) (pop_not rfl)
  repeat exact sd T
  refine wA T (g:=?_)
  obtain ⟨v11,h1,hr⟩:=bs hr
  apply TO.cal (wn T) rfl goFn47 (Spec.ov (law07_Small_spec h1) (by decide)) rfl rfl rfl
  repeat exact sd T
  refine wa_ T (g:=?_)
  apply TO.pop1 (wn T) (pop_not rfl)
  repeat exact sd T
  refine wa_ T (g:=?_)
  rcases ifs hr with ⟨h2,hr⟩|⟨h2,hr⟩
  · have T:=an h2 T
    refine wA T (g:=?_)
    obtain ⟨v12,h3,hr⟩:=bs hr
    apply TO.cal (wn T) rfl goFn48 (Spec.ov (law07_short_spec h3) (by decide)) rfl rfl rfl
    repeat exact sd T
    refine wa_ T (g:=?_)
    apply TO.pop1 (wn T) (pop_not rfl)
    repeat exact sd T
    refine wa_ T (g:=?_)
    rcases ifs hr with ⟨h4,hr⟩|⟨h4,hr⟩
    · have T:=an h4 T
      refine wA T (g:=?_)
      obtain ⟨⟨v13,v14⟩,h5,hr⟩:=bs hr
      try dsimp only at hr
      apply TD.cal (wn T) rfl goFn50 (Spec.ov (ref07_CopyTask_spec h5) (by decide)) rfl rfl rfl
      repeat exact sd T
      refine wA T (g:=?_)
      obtain ⟨⟨v15,v16⟩,h6,hr⟩:=bs hr
      try dsimp only at hr
      apply TD.cal (wn T) rfl goFn51 (Spec.ov (ref07_CopyOpen_spec h6) (by decide)) rfl rfl rfl
      repeat exact sd T
      refine wa_ T (g:=?_)
      obtain ⟨⟨v17,v18,v19⟩,h7,hr⟩:=bs hr
      try dsimp only at hr
      apply TD.lok (wn T) rfl goFn49 (Spec.ov (array_CheckOpen_spec h7) (by decide)) (vw T) rfl rfl (by simp [clTB,cl,e_iiiii,e_i,e_iiiiiiiii,e_z,e_iii,e_Li_])
      repeat exact sd T
      refine wA T (g:=?_)
      obtain ⟨⟨v20,v21⟩,h8,hr⟩:=bs hr
      try dsimp only at hr
      apply TD.cal (wn T) rfl goFn50 (Spec.ov (ref07_CopyTask_spec h8) (by decide)) rfl rfl rfl
      repeat exact sd T
      refine wA T (g:=?_)
      obtain ⟨⟨v22,v23,v24,v25⟩,h9,hr⟩:=bs hr
      try dsimp only at hr
      apply TD.cal (wn T) rfl goFn53 (Spec.ov (ref07_CopyWeights_spec h9) (by decide)) rfl rfl rfl
      repeat exact sd T
      refine wa_ T (g:=?_)
      obtain ⟨⟨v26,v27,v28⟩,h10,hr⟩:=bs hr
      try dsimp only at hr
      apply TD.lok (wn T) rfl goFn52 (Spec.ov (array_CheckWeights_spec h10) (by decide)) (vw T) rfl rfl (by simp [clTB,cl,e_iiiii,e_i,e_iiiiiiiii,e_z,e_iii,e_Li_])
      repeat exact sd T
      refine wA T (g:=?_)
      obtain ⟨⟨v29,v30⟩,h11,hr⟩:=bs hr
      try dsimp only at hr
      apply TD.cal (wn T) rfl goFn50 (Spec.ov (ref07_CopyTask_spec h11) (by decide)) rfl rfl rfl
      repeat exact sd T
      refine wA T (g:=?_)
      obtain ⟨⟨v31,v32,v33,v34⟩,h12,hr⟩:=bs hr
      try dsimp only at hr
      apply TD.cal (wn T) rfl goFn53 (Spec.ov (ref07_CopyWeights_spec h12) (by decide)) rfl rfl rfl
      repeat exact sd T
      refine wa_ T (g:=?_)
      obtain ⟨v35,h13,hr⟩:=bs hr
      apply TD.lok (wn T) rfl goFn54 (Spec.ov (array_CannotReach_spec h13) (by decide)) (vw T) rfl rfl (by simp [clTB,cl,e_iiiii,e_i,e_iiiiiiiii,e_z,e_iii,e_Li_])
      repeat exact sd T
      refine wA T (g:=?_)
      obtain ⟨v36,h14,hr⟩:=bs hr
      apply TO.cal (wn T) rfl goFn55 (Spec.ov (ref07_CheckTask_spec h14) (by decide)) rfl rfl rfl
      repeat exact sd T
      refine wA T (g:=?_)
      obtain ⟨⟨v37,v38⟩,h15,hr⟩:=bs hr
      try dsimp only at hr
      apply TO.cal (wn T) rfl goFn50 (Spec.ov (ref07_CopyTask_spec h15) (by decide)) rfl rfl rfl
      repeat exact sd T
      refine wa_ T (g:=?_)
      obtain ⟨v39,h16,hr⟩:=bs hr
      apply TO.lok (wn T) rfl goFn56 (Spec.ov (array_CheckTask_spec h16) (by decide)) (vw T) rfl rfl (by simp [clTB,cl,e_iiiii,e_i,e_iiiiiiiii,e_z,e_iii,e_Li_])
      repeat exact sd T
      refine wa_ T (g:=?_)
      rcases ifs hr with ⟨h17,hr⟩|⟨h17,hr⟩
      · have T:=an h17 T
        refine wa_ T (g:=?_)
        exact lv T hr
      · have T:=an h17 T
        refine wa_ T (g:=?_)
        rcases ifs hr with ⟨h18,hr⟩|⟨h18,hr⟩
        · have T:=an h18 T
          refine wa_ T (g:=?_)
          rcases ifs hr with ⟨h19,hr⟩|⟨h19,hr⟩
          · have T:=an h19 T
            refine wa_ T (g:=?_)
            rcases ifs hr with ⟨h20,hr⟩|⟨h20,hr⟩
            · have T:=an h20 T
              refine wa_ T (g:=?_)
              rcases ifs hr with ⟨h21,hr⟩|⟨h21,hr⟩
              · have T:=an h21 T
                refine wA T (g:=?_)
                apply TO.pop1 (wn T) (pop_eqs1 (X:=⟨[.int .i64 (v17),.int .i64 (v18)]⟩) (Y:=⟨[.int .i64 (0),.int .i64 (0)]⟩) rfl rfl rfl rfl rfl rfl rfl eqg96 eqs96 rfl)
                repeat exact sd T
                refine wa_ T (g:=?_)
                rcases ifs hr with ⟨h22,hr⟩|⟨h22,hr⟩
                · have T:=an h22 T
                  refine wA T (g:=?_)
                  apply TO.pop1 (wn T) (pop_eqs1 (X:=⟨[.int .i64 (v26),.int .i64 (v27)]⟩) (Y:=⟨[.int .i64 (0),.int .i64 (0)]⟩) rfl rfl rfl rfl rfl rfl rfl eqg96 eqs96 rfl)
                  repeat exact sd T
                  refine wa_ T (g:=?_)
                  exact lv T hr
                · have T:=an h22 T
                  refine wa_ T (g:=?_)
                  exact lv T hr
              · have T:=an h21 T
                refine wa_ T (g:=?_)
                exact lv T hr
            · have T:=an h20 T
              refine wa_ T (g:=?_)
              exact lv T hr
          · have T:=an h19 T
            refine wa_ T (g:=?_)
            exact lv T hr
        · have T:=an h18 T
          refine wA T (g:=?_)
          obtain ⟨⟨v40,v41,v42⟩,h23,hr⟩:=bs hr
          try dsimp only at hr
          apply TO.cal (wn T) rfl goFn57 (Spec.ov (ref07_CheckOpen_spec h23) (by decide)) rfl rfl rfl
          repeat exact sd T
          refine wA T (g:=?_)
          obtain ⟨⟨v43,v44,v45⟩,h24,hr⟩:=bs hr
          try dsimp only at hr
          apply TO.cal (wn T) rfl goFn58 (Spec.ov (ref07_CheckWeights_spec h24) (by decide)) rfl rfl rfl
          repeat exact sd T
          refine wa_ T (g:=?_)
          rcases ifs hr with ⟨h25,hr⟩|⟨h25,hr⟩
          · have T:=an h25 T
            refine wa_ T (g:=?_)
            exact lv T hr
          · have T:=an h25 T
            refine wA T (g:=?_)
            apply TO.pop1 (wn T) (pop_eqs2 (X:=⟨[.int .i64 (v17),.int .i64 (v18)]⟩) (Y:=⟨[.int .i64 (v40),.int .i64 (v41)]⟩) rfl rfl rfl rfl rfl rfl rfl eqg96 eqs96 rfl)
            repeat exact sd T
            refine wa_ T (g:=?_)
            rcases ifs hr with ⟨h26,hr⟩|⟨h26,hr⟩
            · have T:=an h26 T
              refine wa_ T (g:=?_)
              rcases ifs hr with ⟨h27,hr⟩|⟨h27,hr⟩
              · have T:=an h27 T
                refine wa_ T (g:=?_)
                exact lv T hr
              · have T:=an h27 T
                refine wA T (g:=?_)
                apply TO.pop1 (wn T) (pop_eqs2 (X:=⟨[.int .i64 (v26),.int .i64 (v27)]⟩) (Y:=⟨[.int .i64 (v43),.int .i64 (v44)]⟩) rfl rfl rfl rfl rfl rfl rfl eqg96 eqs96 rfl)
                repeat exact sd T
                refine wa_ T (g:=?_)
                rcases ifs hr with ⟨h28,hr⟩|⟨h28,hr⟩
                · have T:=an h28 T
                  refine wa_ T (g:=?_)
                  obtain ⟨v46,h29,hr⟩:=bs hr
                  apply TO.cal (wn T) rfl goFn17 (Spec.ov (base_Within_spec h29) (by decide)) rfl rfl rfl
                  repeat exact sd T
                  refine wa_ T (g:=?_)
                  apply TO.pop1 (wn T) (pop_not rfl)
                  repeat exact sd T
                  refine wa_ T (g:=?_)
                  rcases ifs hr with ⟨h30,hr⟩|⟨h30,hr⟩
                  · have T:=an h30 T
                    refine wa_ T (g:=?_)
                    rcases ifs hr with ⟨h31,hr⟩|⟨h31,hr⟩
                    · repeat (first|(with_reducible first|refine mv ?_|refine TO.nil ?_)|((with_reducible first|apply TO.ia|apply TO.ld|apply TO.mv);(repeat (focus (show _ = _;first|exact k1 rfl|exact k2 rfl|(simp only [zz,y50,e_Li_,e_i,Nat.reduceAdd,Nat.reduceMul,Nat.reduceLeDiff,Nat.reduceEqDiff,tindexAddr,z5,Int.reduceToNat,Int.reduceLE,Int.reduceLT,Int.cast_ofNat_Int,tload,rowOf,partT,List.getElem?_map,h2,h4,h17,h18,h25,h26,h27,h28,h30,h31]<;>exact rfl)|exact rfl)));(with_reducible apply TO.here))|((with_reducible apply TX.region);(focus (simp only [zl]<;>exact rfl));(focus rfl);(try dsimp only))|fail)
                      obtain ⟨v47,h32,hr⟩:=bs hr
                      have T:=an h31 T
                      apply TO.cal (wn T) rfl goFn59 (Spec.ov (base_Compare_spec h32) (by decide)) rfl rfl rfl
                      repeat exact sd T
                      refine wa_ T (g:=?_)
                      rcases ifs hr with ⟨h33,hr⟩|⟨h33,hr⟩
                      · have T:=an h33 T
                        refine wa_ T (g:=?_)
                        rcases ifs hr with ⟨h34,hr⟩|⟨h34,hr⟩
                        · have T:=an h34 T
                          refine wa_ T (g:=?_)
                          rcases ifs hr with ⟨h35,hr⟩|⟨h35,hr⟩
                          · have T:=an h35 T
                            refine wa_ T (g:=?_)
                            exact lv T hr
                          · have T:=an h35 T
                            refine wa_ T (g:=?_)
                            rcases ifs hr with ⟨h36,hr⟩|⟨h36,hr⟩
                            · have T:=an h36 T
                              refine wa_ T (g:=?_)
                              exact lv T hr
                            · repeat (first|(with_reducible first|refine mv ?_|refine TO.nil ?_)|((with_reducible first|apply TO.ia|apply TO.ld);(repeat (focus (show _ = _;first|exact k1 rfl|exact k2 rfl|(simp only [zz,y50,e_Li_,e_i,Nat.reduceAdd,Nat.reduceMul,Nat.reduceLeDiff,Nat.reduceEqDiff,tindexAddr,z5,Int.reduceToNat,Int.reduceLE,Int.reduceLT,Int.cast_ofNat_Int,tload,rowOf,partT,List.getElem?_map,h2,h4,h17,h18,h25,h26,h27,h28,h30,h31,h33,h34,h35,h36]<;>exact rfl)|exact rfl)));(with_reducible apply TO.here))|((with_reducible apply TX.region);(focus (simp only [zl]<;>exact rfl));(focus rfl);(try dsimp only))|fail)
                              obtain ⟨v48,h37,hr⟩:=bs hr
                              have T:=an h36 T
                              apply TO.cal (wn T) rfl goFn59 (Spec.ov (base_Compare_spec h37) (by decide)) rfl rfl rfl
                              repeat exact sd T
                              refine wa_ T (g:=?_)
                              exact lv T hr
                        · have T:=an h34 T
                          refine wa_ T (g:=?_)
                          exact lv T hr
                      · have T:=an h33 T
                        refine wa_ T (g:=?_)
                        rcases ifs hr with ⟨h38,hr⟩|⟨h38,hr⟩
                        · have T:=an h38 T
                          refine wa_ T (g:=?_)
                          rcases ifs hr with ⟨h39,hr⟩|⟨h39,hr⟩
                          · have T:=an h39 T
                            refine wa_ T (g:=?_)
                            exact lv T hr
                          · have T:=an h39 T
                            refine wa_ T (g:=?_)
                            rcases ifs hr with ⟨h40,hr⟩|⟨h40,hr⟩
                            · have T:=an h40 T
                              refine wa_ T (g:=?_)
                              exact lv T hr
                            · repeat (first|(with_reducible first|refine mv ?_|refine TO.nil ?_)|((with_reducible first|apply TO.ia|apply TO.ld);(repeat (focus (show _ = _;first|exact k1 rfl|exact k2 rfl|(simp only [zz,y50,e_Li_,e_i,Nat.reduceAdd,Nat.reduceMul,Nat.reduceLeDiff,Nat.reduceEqDiff,tindexAddr,z5,Int.reduceToNat,Int.reduceLE,Int.reduceLT,Int.cast_ofNat_Int,tload,rowOf,partT,List.getElem?_map,h2,h4,h17,h18,h25,h26,h27,h28,h30,h31,h33,h38,h39,h40]<;>exact rfl)|exact rfl)));(with_reducible apply TO.here))|((with_reducible apply TX.region);(focus (simp only [zl]<;>exact rfl));(focus rfl);(try dsimp only))|fail)
                              obtain ⟨v49,h41,hr⟩:=bs hr
                              have T:=an h40 T
                              apply TO.cal (wn T) rfl goFn59 (Spec.ov (base_Compare_spec h41) (by decide)) rfl rfl rfl
                              repeat exact sd T
                              refine wa_ T (g:=?_)
                              exact lv T hr
                        · have T:=an h38 T
                          refine wa_ T (g:=?_)
                          exact lv T hr
                    · have T:=an h31 T
                      refine wa_ T (g:=?_)
                      rcases ifs hr with ⟨h42,hr⟩|⟨h42,hr⟩
                      · have T:=an h42 T
                        refine wa_ T (g:=?_)
                        rcases ifs hr with ⟨h43,hr⟩|⟨h43,hr⟩
                        · have T:=an h43 T
                          refine wa_ T (g:=?_)
                          exact lv T hr
                        · have T:=an h43 T
                          refine wa_ T (g:=?_)
                          rcases ifs hr with ⟨h44,hr⟩|⟨h44,hr⟩
                          · have T:=an h44 T
                            refine wa_ T (g:=?_)
                            exact lv T hr
                          · repeat (first|(with_reducible first|refine mv ?_|refine TO.nil ?_)|((with_reducible first|apply TO.ia|apply TO.ld);(repeat (focus (show _ = _;first|exact k1 rfl|exact k2 rfl|(simp only [zz,y50,e_Li_,e_i,Nat.reduceAdd,Nat.reduceMul,Nat.reduceLeDiff,Nat.reduceEqDiff,tindexAddr,z5,Int.reduceToNat,Int.reduceLE,Int.reduceLT,Int.cast_ofNat_Int,tload,rowOf,partT,List.getElem?_map,h2,h4,h17,h18,h25,h26,h27,h28,h30,h31,h42,h43,h44]<;>exact rfl)|exact rfl)));(with_reducible apply TO.here))|((with_reducible apply TX.region);(focus (simp only [zl]<;>exact rfl));(focus rfl);(try dsimp only))|fail)
                            obtain ⟨v50,h45,hr⟩:=bs hr
                            have T:=an h44 T
                            apply TO.cal (wn T) rfl goFn59 (Spec.ov (base_Compare_spec h45) (by decide)) rfl rfl rfl
                            repeat exact sd T
                            refine wa_ T (g:=?_)
                            exact lv T hr
                      · have T:=an h42 T
                        refine wa_ T (g:=?_)
                        exact lv T hr
                  · have T:=an h30 T
                    refine wa_ T (g:=?_)
                    rcases ifs hr with ⟨h46,hr⟩|⟨h46,hr⟩
                    · have T:=an h46 T
                      refine wa_ T (g:=?_)
                      rcases ifs hr with ⟨h47,hr⟩|⟨h47,hr⟩
                      · have T:=an h47 T
                        refine wa_ T (g:=?_)
                        exact lv T hr
                      · have T:=an h47 T
                        refine wa_ T (g:=?_)
                        rcases ifs hr with ⟨h48,hr⟩|⟨h48,hr⟩
                        · have T:=an h48 T
                          refine wa_ T (g:=?_)
                          exact lv T hr
                        · repeat (first|(with_reducible first|refine mv ?_|refine TO.nil ?_)|((with_reducible first|apply TO.ia|apply TO.ld);(repeat (focus (show _ = _;first|exact k1 rfl|exact k2 rfl|(simp only [zz,y50,e_Li_,e_i,Nat.reduceAdd,Nat.reduceMul,Nat.reduceLeDiff,Nat.reduceEqDiff,tindexAddr,z5,Int.reduceToNat,Int.reduceLE,Int.reduceLT,Int.cast_ofNat_Int,tload,rowOf,partT,List.getElem?_map,h2,h4,h17,h18,h25,h26,h27,h28,h30,h46,h47,h48]<;>exact rfl)|exact rfl)));(with_reducible apply TO.here))|((with_reducible apply TX.region);(focus (simp only [zl]<;>exact rfl));(focus rfl);(try dsimp only))|fail)
                          obtain ⟨v51,h49,hr⟩:=bs hr
                          have T:=an h48 T
                          apply TO.cal (wn T) rfl goFn59 (Spec.ov (base_Compare_spec h49) (by decide)) rfl rfl rfl
                          repeat exact sd T
                          refine wa_ T (g:=?_)
                          exact lv T hr
                    · have T:=an h46 T
                      refine wa_ T (g:=?_)
                      exact lv T hr
                · have T:=an h28 T
                  refine wa_ T (g:=?_)
                  exact lv T hr
            · have T:=an h26 T
              refine wa_ T (g:=?_)
              exact lv T hr
    · have T:=an h4 T
      refine wa_ T (g:=?_)
      exact lv T hr
  · have T:=an h2 T
    refine wa_ T (g:=?_)
    exact lv T hr

end Go.Rex
