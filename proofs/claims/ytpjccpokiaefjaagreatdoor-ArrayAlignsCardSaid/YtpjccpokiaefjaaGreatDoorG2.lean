/- Proofs that the program's functions do what these plain functions say. -/
import Derived.Test.YtpjccpokiaefjaaGreatDoorGB
import Derived.Test.YtpjccpokiaefjaaGreatDoorS
import Derived.Test.YtpjccpokiaefjaaGreatDoorG1
import Derived.Test.YtpjccpokiaefjaaGreatDoorCZ
set_option linter.unusedSimpArgs false
set_option linter.unusedVariables false
set_option linter.defProp false
namespace Go.Rex
open Go.Proofs
open Go Go.Rex Go.RowKit
set_option maxRecDepth 100000
set_option maxHeartbeats 1000000
theorem law07_parts_spec {v1 : Nat} {v2 : Nat} {v3 : Int} {v4 : Int} {v5 : Bool} (hr : law07_parts v1 v2 = some (v3,v4,v5)) : Spec (lim Tryz.prog) 39 [.v (.complex .f64 v1 v2)] ⟨[.tuple [.v (.int .i64 v3),.v (.int .i64 v4),.v (.bool v5)]],[]⟩:=by
  unfold law07_parts at hr
  have T:=trivial
  apply Spec.fn Tryz.func39 rfl
  focus (simp [Tryz.f39]<;>exact rfl)
  focus
    refine wa_ T (g:=?_)
    apply TO.pop1 (wn T) (pop_real rfl)
    repeat exact sd T
    refine wa_ T (g:=?_)
    obtain ⟨v6,h1,hr⟩:=bs hr
    apply TO.cal (wn T) rfl goFn96 (base_IsWhole_spec h1) rfl rfl rfl
    repeat exact sd T
    refine wa_ T (g:=?_)
    apply TO.pop1 (wn T) (pop_not rfl)
    repeat exact sd T
    refine wa_ T (g:=?_)
    rcases ifs hr with ⟨h2,hr⟩|⟨h2,hr⟩
    · have T:=an h2 T
      refine wa_ T (g:=?_)
      apply TO.pop1 (wn T) (pop_imag rfl)
      repeat exact sd T
      refine wa_ T (g:=?_)
      obtain ⟨v7,h3,hr⟩:=bs hr
      apply TO.cal (wn T) rfl goFn96 (base_IsWhole_spec h3) rfl rfl rfl
      repeat exact sd T
      refine wa_ T (g:=?_)
      apply TO.pop1 (wn T) (pop_not rfl)
      repeat exact sd T
      refine wa_ T (g:=?_)
      rcases ifs hr with ⟨h4,hr⟩|⟨h4,hr⟩
      · have T:=an h4 T
        refine wa_ T (g:=?_)
        apply TO.pop1 (wn T) (pop_real rfl)
        repeat exact sd T
        refine wa_ T (g:=?_)
        apply TO.pop1 (wn T) (pop_fcmp rfl rfl (by decide))
        repeat exact sd T
        refine wa_ T (g:=?_)
        rcases ifs hr with ⟨h5,hr⟩|⟨h5,hr⟩
        · have T:=an h5 T
          refine wa_ T (g:=?_)
          cases hr
          refine ⟨.inr rfl,_,(ry T),?_⟩
          exact wk_ T [] rfl .nil
        · have T:=an h5 T
          refine wa_ T (g:=?_)
          apply TO.pop1 (wn T) (pop_real rfl)
          repeat exact sd T
          refine wa_ T (g:=?_)
          apply TO.pop1 (wn T) (pop_fcmp rfl rfl (by decide))
          repeat exact sd T
          refine wa_ T (g:=?_)
          rcases ifs hr with ⟨h6,hr⟩|⟨h6,hr⟩
          · have T:=an h6 T
            refine wa_ T (g:=?_)
            cases hr
            refine ⟨.inr rfl,_,(ry T),?_⟩
            exact wk_ T [] rfl .nil
          · have T:=an h6 T
            refine wa_ T (g:=?_)
            apply TO.pop1 (wn T) (pop_imag rfl)
            repeat exact sd T
            refine wa_ T (g:=?_)
            apply TO.pop1 (wn T) (pop_fcmp rfl rfl (by decide))
            repeat exact sd T
            refine wa_ T (g:=?_)
            rcases ifs hr with ⟨h7,hr⟩|⟨h7,hr⟩
            · have T:=an h7 T
              refine wa_ T (g:=?_)
              cases hr
              refine ⟨.inr rfl,_,(ry T),?_⟩
              exact wk_ T [] rfl .nil
            · have T:=an h7 T
              refine wa_ T (g:=?_)
              apply TO.pop1 (wn T) (pop_imag rfl)
              repeat exact sd T
              refine wa_ T (g:=?_)
              apply TO.pop1 (wn T) (pop_fcmp rfl rfl (by decide))
              repeat exact sd T
              refine wa_ T (g:=?_)
              rcases ifs hr with ⟨h8,hr⟩|⟨h8,hr⟩
              · have T:=an h8 T
                refine wa_ T (g:=?_)
                cases hr
                refine ⟨.inr rfl,_,(ry T),?_⟩
                exact wk_ T [] rfl .nil
              · have T:=an h8 T
                refine wa_ T (g:=?_)
                obtain ⟨⟨v8,v9⟩,h9,hr⟩:=bs hr
                try dsimp only at hr
                apply TO.cal (wn T) rfl goFn97 (base_Parts_spec h9) rfl rfl rfl
                repeat exact sd T
                refine wa_ T (g:=?_)
                cases hr
                refine ⟨.inr rfl,_,(ry T),?_⟩
                exact wk_ T [] rfl .nil
      · have T:=an h4 T
        refine wa_ T (g:=?_)
        cases hr
        refine ⟨.inr rfl,_,(ry T),?_⟩
        exact wk_ T [] rfl .nil
    · have T:=an h2 T
      refine wa_ T (g:=?_)
      cases hr
      refine ⟨.inr rfl,_,(ry T),?_⟩
      exact wk_ T [] rfl .nil
  rfl

end Go.Rex

namespace Go.Rex
open Go.Proofs
open Go Go.Rex Go.RowKit
set_option maxRecDepth 100000
set_option maxHeartbeats 200000
def y58:=an @ag22 <| an @ag3 <| an @ag40 <| an @cs40 <| an @fd24_0 <| an @fd24_1 <| an @fd24_2 <| an @ok40 <| @so22
theorem ref07_Same_1134_spec {v1 : Int} {v2 : Int} {v3 : (List (Int × Int × Int × Int × Int))} {v4 : Int} {v5 : Int} {v6 : Bool} (hr : ref07_Same_1134 v1 v2 v3 v4 v5 = some (v6)) : Spec (lim Tryz.prog) 18 [.agg [.v (.int .i64 v1),.v (.int .i64 v2),.list 5 (v3.map e_iiiii)],.agg [.v (.int .i64 v4),.v (.int .i64 v5),.v (.slice none 0 0)]] ⟨[.v (.bool v6)],[]⟩:=by
  unfold ref07_Same_1134 at hr
  have T:=an y58 <| @e_iiiii.eq_1
  apply Spec.fn Tryz.func18 rfl
  focus (simp [Tryz.f18]<;>exact rfl)
  focus
    refine wB T (g:=?_)
    rcases ifs hr with ⟨h1,hr⟩|⟨h1,hr⟩
    · have T:=an h1 T
      refine wa_ T (g:=?_)
      cases hr
      refine ⟨.inr rfl,_,(ry T),?_⟩
      exact wk_ T [] rfl .nil
    · have T:=an h1 T
      refine wA T (g:=?_)
      rcases ifs hr with ⟨h2,hr⟩|⟨h2,hr⟩
      · have T:=an h2 T
        refine wa_ T (g:=?_)
        cases hr
        refine ⟨.inr rfl,_,(ry T),?_⟩
        exact wk_ T [] rfl .nil
      · have T:=an h2 T
        refine wC T (g:=?_)
        apply TO.pop1 (wn T) (pop_lennil rfl (so22))
        repeat exact sd T
        refine wa_ T (g:=?_)
        rcases ifs hr with ⟨h3,hr⟩|⟨h3,hr⟩
        · have T:=an h3 T
          refine wa_ T (g:=?_)
          cases hr
          refine ⟨.inr rfl,_,(ry T),?_⟩
          exact wk_ T [] rfl .nil
        · have T:=an h3 T
          refine wa_ T (g:=?_)
          obtain ⟨_,h8,hr⟩:=bs hr
          refine TX.loopE (step:=ref07_Same_1134_l1 v3) (x:=()) h8 (fun _=>⟨.junk :: .junk :: .fptr true [.v (.int .i64 v1),.v (.int .i64 v2),.list 5 (v3.map e_iiiii)] 0 :: .fptr true [.v (.int .i64 v4),.v (.int .i64 v5),.v (.slice none 0 0)] 0 :: .junk :: .v (.int .i64 0) :: .junk :: .junk :: .junk :: .junk :: .junk :: .junk :: .junk :: .junk :: .junk :: .junk :: .junk :: .junk :: .junk :: .junk :: .junk :: .junk :: .junk :: .junk :: .junk :: .junk :: .junk :: .junk :: .junk :: .junk :: .junk :: .junk :: .junk :: .junk :: .junk :: .junk :: .junk :: .junk :: .junk :: .junk :: .junk :: .junk :: .junk :: .junk :: .junk :: [],[]⟩) (fun _=>(.exit 0,⟨.junk :: .junk :: .junk :: .junk :: .junk :: .junk :: .junk :: .junk :: .junk :: .junk :: .junk :: .junk :: .junk :: .junk :: .junk :: .junk :: .junk :: .junk :: .junk :: .junk :: .junk :: .junk :: .junk :: .junk :: .junk :: .junk :: .junk :: .junk :: .junk :: .junk :: .junk :: .junk :: .junk :: .junk :: .junk :: .junk :: .junk :: .junk :: .junk :: .junk :: .junk :: .junk :: .junk :: .junk :: .junk :: [],[]⟩)) ?_ ?_ ?_ ?_
          · rintro _ v0 hr
            dsimp only [ref07_Same_1134_l1] at hr
            try dsimp only
            refine wC T (g:=?_)
            rcases ifs hr with ⟨h6,hr⟩|⟨h6,hr⟩
            · have T:=an h6 T
              refine wA T (g:=?_)
              obtain ⟨⟨v12,v13,v14,v15,v16⟩,h7,hr⟩:=bs hr
              try dsimp only at hr
              have T:=an (gx e_iiiii h7) T
              cases hr
            · have T:=an h6 T
              refine wa_ T (g:=?_)
              cases hr
              refine ⟨rfl,?_⟩
              exact wk_ T [] rfl .nil
          · intro e h;cases h
          · try dsimp only
            refine wa_ T (g:=?_)
            cases hr
            refine ⟨.inr rfl,_,(ry T),?_⟩
            exact wk_ T [] rfl .nil
          · try dsimp only
            exact wk_ T [] rfl .nil
  rfl

end Go.Rex

namespace Go.Rex
open Go.Proofs
open Go Go.Rex Go.RowKit
set_option maxRecDepth 100000

end Go.Rex

namespace Go.Rex
open Go.Proofs
open Go Go.Rex Go.RowKit
set_option maxRecDepth 100000
set_option maxHeartbeats 4000000
def y59:=an @ag24 <| an @ag38 <| an @cs24 <| an @cs38 <| an @ok24 <| an @ok38 <| @zc24
theorem law07_ArrayAligns_law {v1 : Int} {v2 : Int} {v3 : (List (Int × Int × Int × Int × Int))} {v4 : Int} {v5 : Int} {v6 : Int} (hr : law07_ArrayAligns v1 v2 v3 v4 v5 v6 = some true) {Fz : Nat → Prop} {h : List Blk} {vs : List Value} (hfz : ∀ n, Fz n → n < h.length) (hargs : VLs Fz h noL [.agg [.v (.int .i64 v1), .v (.int .i64 v2), .list 5 (v3.map e_iiiii)], .agg [.v (.int .i64 v4), .v (.int .i64 v5), .v (.int .i64 v6)]] vs)
    {B lo : Nat} {D : Nat → Prop} {m : NMap} {w : World} {args' : List Value} (hrel : Rel B lo D m h w) (hlo : lo ≤ h.length) (hargs' : VRs D m vs args') : Calls Tryz.prog 8 ⟨args'⟩ w (fun e w'=>e = .returned (.bool true) ∧ Below w.heap.size w w'):=by
  unfold law07_ArrayAligns at hr
  have T:=an y59 <| @e_iiiii.eq_1
  refine law_tex follows awake_true Tryz.func8 rfl (tm0:=.agg [.v (.int .i64 v1),.v (.int .i64 v2),.list 5 (v3.map e_iiiii)] :: .agg [.v (.int .i64 v4),.v (.int .i64 v5),.v (.int .i64 v6)] :: .junk :: .junk :: .junk :: .junk :: .junk :: .junk :: .junk :: .junk :: .junk :: .junk :: .junk :: .junk :: .junk :: .junk :: .junk :: .junk :: .junk :: .junk :: .junk :: .junk :: .junk :: .junk :: .junk :: .junk :: .junk :: .junk :: .junk :: .junk :: .junk :: .junk :: .junk :: .junk :: .junk :: .junk :: .junk :: .junk :: .junk :: .junk :: .junk :: .junk :: .junk :: .junk :: .junk :: .junk :: .junk :: .junk :: .junk :: .junk :: .junk :: .junk :: .junk :: .junk :: .junk :: .junk :: .junk :: .junk :: .junk :: .junk :: .junk :: .junk :: .junk :: .junk :: .junk :: .junk :: .junk :: .junk :: .junk :: .junk :: .junk :: .junk :: .junk :: .junk :: .junk :: .junk :: .junk :: .junk :: .junk :: .junk :: .junk :: .junk :: .junk :: .junk :: .junk :: .junk :: .junk :: .junk :: .junk :: .junk :: .junk :: .junk :: .junk :: .junk :: .junk :: .junk :: .junk :: .junk :: .junk :: .junk :: .junk :: .junk :: .junk :: .junk :: .junk :: .junk :: .junk :: .junk :: .junk :: .junk :: .junk :: .junk :: .junk :: .junk :: .junk :: .junk :: .junk :: .junk :: .junk :: .junk :: .junk :: .junk :: .junk :: .junk :: .junk :: .junk :: .junk :: .junk :: .junk :: .junk :: .junk :: .junk :: .junk :: .junk :: .junk :: .junk :: .junk :: .junk :: .junk :: .junk :: .junk :: .junk :: .junk :: .junk :: .junk :: .junk :: .junk :: .junk :: .junk :: .junk :: .junk :: .junk :: .junk :: []) (by simp [Tryz.f8]<;>exact rfl) ?_ hfz hargs hrel hlo hargs'
  refine wb_ T (g:=?_)
  apply TO.cal (wn T) rfl goFn11 Spec.awake rfl rfl rfl
  repeat exact sd T
  refine wa_ T (g:=?_)
  apply TO.pop1 (wn T) (pop_not rfl)
  repeat exact sd T
  refine wA T (g:=?_)
  obtain ⟨v8,h1,hr⟩:=bs hr
  apply TO.cal (wn T) rfl goFn12 (Spec.ov (law07_few_spec h1) (by decide)) rfl rfl rfl
  repeat exact sd T
  refine wa_ T (g:=?_)
  apply TO.pop1 (wn T) (pop_not rfl)
  repeat exact sd T
  refine wa_ T (g:=?_)
  rcases ifs hr with ⟨h2,hr⟩|⟨h2,hr⟩
  · have T:=an h2 T
    refine wA T (g:=?_)
    obtain ⟨⟨v9,v10,v11⟩,h3,hr⟩:=bs hr
    try dsimp only at hr
    apply TD.cal (wn T) rfl goFn14 (Spec.ov (ref07_Copy_spec h3) (by decide)) rfl rfl rfl
    repeat exact sd T
    refine wA T (g:=?_)
    obtain ⟨⟨v12,v13,v14,v15⟩,h4,hr⟩:=bs hr
    try dsimp only at hr
    apply TD.lok (wn T) rfl goFn41 (Spec.ov (array_Aligned_spec h4) (by decide)) (vw T) rfl rfl (by simp [clTB,cl,e_iiiii,e_i,e_iiiiiiiii,e_z])
    repeat exact sd T
    refine wA T (g:=?_)
    obtain ⟨v16,h5,hr⟩:=bs hr
    apply TO.cal (wn T) rfl goFn32 (Spec.ov (law07_arrayErr_spec h5) (by decide)) rfl rfl rfl
    repeat exact sd T
    refine wa_ T (g:=?_)
    rcases ifs hr with ⟨h6,hr⟩|⟨h6,hr⟩
    · have T:=an h6 T
      refine wA T (g:=?_)
      obtain ⟨⟨v17,v18,v19,v20⟩,h7,hr⟩:=bs hr
      try dsimp only at hr
      apply TO.cal (wn T) rfl goFn42 (Spec.ov (ref07_Aligned_spec h7) (by decide)) rfl rfl rfl
      repeat exact sd T
      refine wa_ T (g:=?_)
      rcases ifs hr with ⟨h8,hr⟩|⟨h8,hr⟩
      · have T:=an h8 T
        refine wa_ T (g:=?_)
        exact lv T hr
      · have T:=an h8 T
        refine wA T (g:=?_)
        obtain ⟨v21,h9,hr⟩:=bs hr
        apply TO.lok (wn T) rfl goFn18 (Spec.ov (ref07_Same_spec h9) (by decide)) (vw T) rfl rfl (by simp [clTB,cl,e_iiiii,e_i,e_iiiiiiiii,e_z])
        repeat exact sd T
        refine wa_ T (g:=?_)
        apply TO.pop1 (wn T) (pop_not rfl)
        repeat exact sd T
        refine wa_ T (g:=?_)
        rcases ifs hr with ⟨h10,hr⟩|⟨h10,hr⟩
        · have T:=an h10 T
          refine wa_ T (g:=?_)
          rcases ifs hr with ⟨h11,hr⟩|⟨h11,hr⟩
          · have T:=an h11 T
            refine wa_ T (g:=?_)
            exact lv T hr
          · have T:=an h11 T
            refine wA T (g:=?_)
            obtain ⟨⟨v22,v23,v24⟩,h12,hr⟩:=bs hr
            try dsimp only at hr
            apply TD.lok (wn T) rfl goFn14 (Spec.ov (ref07_Copy_spec h12) (by decide)) (vw T) rfl rfl (by simp [clTB,cl,e_iiiii,e_i,e_iiiiiiiii,e_z])
            repeat exact sd T
            refine wA T (g:=?_)
            obtain ⟨⟨v25,v26,v27,v28⟩,h13,hr⟩:=bs hr
            try dsimp only at hr
            apply TD.lok (wn T) rfl goFn41 (Spec.ov (array_Aligned_spec h13) (by decide)) (vw T) rfl rfl (by simp [clTB,cl,e_iiiii,e_i,e_iiiiiiiii,e_z])
            repeat exact sd T
            refine wA T (g:=?_)
            obtain ⟨⟨v29,v30,v31⟩,h14,hr⟩:=bs hr
            try dsimp only at hr
            apply TD.cal (wn T) rfl goFn14 (Spec.ov (ref07_Copy_spec h14) (by decide)) rfl rfl rfl
            repeat exact sd T
            refine wA T (g:=?_)
            obtain ⟨⟨v32,v33,v34⟩,h15,hr⟩:=bs hr
            try dsimp only at hr
            apply TD.lok (wn T) rfl goFn28 (Spec.ov (array_PressureAt_spec h15) (by decide)) (vw T) rfl rfl (by simp [clTB,cl,e_iiiii,e_i,e_iiiiiiiii,e_z])
            repeat exact sd T
            refine wA T (g:=?_)
            obtain ⟨⟨v35,v36,v37⟩,h16,hr⟩:=bs hr
            try dsimp only at hr
            apply TD.lok (wn T) rfl goFn14 (Spec.ov (ref07_Copy_spec h16) (by decide)) (vw T) rfl rfl (by simp [clTB,cl,e_iiiii,e_i,e_iiiiiiiii,e_z])
            repeat exact sd T
            refine wA T (g:=?_)
            obtain ⟨⟨v38,v39,v40⟩,h17,hr⟩:=bs hr
            try dsimp only at hr
            apply TD.lok (wn T) rfl goFn28 (Spec.ov (array_PressureAt_spec h17) (by decide)) (vw T) rfl rfl (by simp [clTB,cl,e_iiiii,e_i,e_iiiiiiiii,e_z])
            repeat exact sd T
            refine wa_ T (g:=?_)
            obtain ⟨⟨v41,v42,v43⟩,h18,hr⟩:=bs hr
            try dsimp only at hr
            apply TO.cal (wn T) rfl goFn39 (Spec.ov (law07_parts_spec h18) (by decide)) rfl rfl rfl
            repeat exact sd T
            refine wa_ T (g:=?_)
            obtain ⟨⟨v44,v45,v46⟩,h19,hr⟩:=bs hr
            try dsimp only at hr
            apply TO.cal (wn T) rfl goFn39 (Spec.ov (law07_parts_spec h19) (by decide)) rfl rfl rfl
            repeat exact sd T
            refine wa_ T (g:=?_)
            rcases ifs hr with ⟨h20,hr⟩|⟨h20,hr⟩
            · have T:=an h20 T
              refine wa_ T (g:=?_)
              exact lv T hr
            · have T:=an h20 T
              refine wA T (g:=?_)
              obtain ⟨v47,h21,hr⟩:=bs hr
              apply TO.lok (wn T) rfl goFn18 (Spec.ov (ref07_Same_spec h21) (by decide)) (vw T) rfl rfl (by simp [clTB,cl,e_iiiii,e_i,e_iiiiiiiii,e_z])
              repeat exact sd T
              refine wa_ T (g:=?_)
              apply TO.pop1 (wn T) (pop_not rfl)
              repeat exact sd T
              refine wa_ T (g:=?_)
              rcases ifs hr with ⟨h22,hr⟩|⟨h22,hr⟩
              · have T:=an h22 T
                refine wa_ T (g:=?_)
                rcases ifs hr with ⟨h23,hr⟩|⟨h23,hr⟩
                · have T:=an h23 T
                  refine wa_ T (g:=?_)
                  exact lv T hr
                · have T:=an h23 T
                  refine wa_ T (g:=?_)
                  rcases ifs hr with ⟨h24,hr⟩|⟨h24,hr⟩
                  · have T:=an h24 T
                    refine wa_ T (g:=?_)
                    exact lv T hr
                  · have T:=an h24 T
                    refine wa_ T (g:=?_)
                    apply TO.pop1 (wn T) (pop_not rfl)
                    repeat exact sd T
                    refine wa_ T (g:=?_)
                    rcases ifs hr with ⟨h25,hr⟩|⟨h25,hr⟩
                    · have T:=an h25 T
                      refine wa_ T (g:=?_)
                      apply TO.pop1 (wn T) (pop_not rfl)
                      repeat exact sd T
                      refine wa_ T (g:=?_)
                      rcases ifs hr with ⟨h26,hr⟩|⟨h26,hr⟩
                      · have T:=an h26 T
                        refine wa_ T (g:=?_)
                        obtain ⟨v48,h27,hr⟩:=bs hr
                        apply TO.cal (wn T) rfl goFn17 (Spec.ov (base_Within_spec h27) (by decide)) rfl rfl rfl
                        repeat exact sd T
                        refine wa_ T (g:=?_)
                        apply TO.pop1 (wn T) (pop_not rfl)
                        repeat exact sd T
                        refine wa_ T (g:=?_)
                        rcases ifs hr with ⟨h28,hr⟩|⟨h28,hr⟩
                        · have T:=an h28 T
                          refine wa_ T (g:=?_)
                          obtain ⟨v49,h29,hr⟩:=bs hr
                          apply TO.cal (wn T) rfl goFn17 (Spec.ov (base_Within_spec h29) (by decide)) rfl rfl rfl
                          repeat exact sd T
                          refine wa_ T (g:=?_)
                          apply TO.pop1 (wn T) (pop_not rfl)
                          repeat exact sd T
                          refine wa_ T (g:=?_)
                          rcases ifs hr with ⟨h30,hr⟩|⟨h30,hr⟩
                          · have T:=an h30 T
                            refine wa_ T (g:=?_)
                            obtain ⟨v50,h31,hr⟩:=bs hr
                            apply TO.cal (wn T) rfl goFn17 (Spec.ov (base_Within_spec h31) (by decide)) rfl rfl rfl
                            repeat exact sd T
                            refine wa_ T (g:=?_)
                            apply TO.pop1 (wn T) (pop_not rfl)
                            repeat exact sd T
                            refine wa_ T (g:=?_)
                            rcases ifs hr with ⟨h32,hr⟩|⟨h32,hr⟩
                            · have T:=an h32 T
                              refine wa_ T (g:=?_)
                              obtain ⟨v51,h33,hr⟩:=bs hr
                              apply TO.cal (wn T) rfl goFn17 (Spec.ov (base_Within_spec h33) (by decide)) rfl rfl rfl
                              repeat exact sd T
                              refine wa_ T (g:=?_)
                              apply TO.pop1 (wn T) (pop_not rfl)
                              repeat exact sd T
                              refine wa_ T (g:=?_)
                              rcases ifs hr with ⟨h34,hr⟩|⟨h34,hr⟩
                              · have T:=an h34 T
                                refine wa_ T (g:=?_)
                                rcases ifs hr with ⟨h35,hr⟩|⟨h35,hr⟩
                                · have T:=an h35 T
                                  refine wa_ T (g:=?_)
                                  exact lv T hr
                                · have T:=an h35 T
                                  refine wa_ T (g:=?_)
                                  rcases ifs hr with ⟨h36,hr⟩|⟨h36,hr⟩
                                  · have T:=an h36 T
                                    refine wa_ T (g:=?_)
                                    exact lv T hr
                                  · have T:=an h36 T
                                    refine wa_ T (g:=?_)
                                    exact lv T hr
                              · have T:=an h34 T
                                refine wa_ T (g:=?_)
                                exact lv T hr
                            · have T:=an h32 T
                              refine wa_ T (g:=?_)
                              exact lv T hr
                          · have T:=an h30 T
                            refine wa_ T (g:=?_)
                            exact lv T hr
                        · have T:=an h28 T
                          refine wa_ T (g:=?_)
                          exact lv T hr
                      · have T:=an h26 T
                        refine wa_ T (g:=?_)
                        exact lv T hr
                    · have T:=an h25 T
                      refine wa_ T (g:=?_)
                      exact lv T hr
              · have T:=an h22 T
                refine wa_ T (g:=?_)
                exact lv T hr
        · have T:=an h10 T
          refine wa_ T (g:=?_)
          exact lv T hr
    · have T:=an h6 T
      refine wa_ T (g:=?_)
      rcases ifs hr with ⟨h37,hr⟩|⟨h37,hr⟩
      · have T:=an h37 T
        refine wa_ T (g:=?_)
        exact lv T hr
      · have T:=an h37 T
        refine wA T (g:=?_)
        obtain ⟨v52,h38,hr⟩:=bs hr
        apply TO.lok (wn T) rfl goFn18 (Spec.ov (ref07_Same_1134_spec h38) (by decide)) (vw T) rfl rfl (by simp [clTB,cl,e_iiiii,e_i,e_iiiiiiiii,e_z])
        repeat exact sd T
        refine wa_ T (g:=?_)
        apply TO.pop1 (wn T) (pop_not rfl)
        repeat exact sd T
        refine wa_ T (g:=?_)
        rcases ifs hr with ⟨h39,hr⟩|⟨h39,hr⟩
        · have T:=an h39 T
          refine wa_ T (g:=?_)
          rcases ifs hr with ⟨h40,hr⟩|⟨h40,hr⟩
          · have T:=an h40 T
            refine wa_ T (g:=?_)
            exact lv T hr
          · have T:=an h40 T
            refine wA T (g:=?_)
            obtain ⟨⟨v53,v54,v55⟩,h41,hr⟩:=bs hr
            try dsimp only at hr
            apply TD.lok (wn T) rfl goFn14 (Spec.ov (ref07_Copy_spec h41) (by decide)) (vw T) rfl rfl (by simp [clTB,cl,e_iiiii,e_i,e_iiiiiiiii,e_z])
            repeat exact sd T
            refine wA T (g:=?_)
            obtain ⟨⟨v56,v57,v58,v59⟩,h42,hr⟩:=bs hr
            try dsimp only at hr
            apply TD.lok (wn T) rfl goFn41 (Spec.ov (array_Aligned_spec h42) (by decide)) (vw T) rfl rfl (by simp [clTB,cl,e_iiiii,e_i,e_iiiiiiiii,e_z])
            repeat exact sd T
            refine wA T (g:=?_)
            obtain ⟨⟨v60,v61,v62⟩,h43,hr⟩:=bs hr
            try dsimp only at hr
            apply TD.cal (wn T) rfl goFn14 (Spec.ov (ref07_Copy_spec h43) (by decide)) rfl rfl rfl
            repeat exact sd T
            refine wA T (g:=?_)
            obtain ⟨⟨v63,v64,v65⟩,h44,hr⟩:=bs hr
            try dsimp only at hr
            apply TD.lok (wn T) rfl goFn28 (Spec.ov (array_PressureAt_spec h44) (by decide)) (vw T) rfl rfl (by simp [clTB,cl,e_iiiii,e_i,e_iiiiiiiii,e_z])
            repeat exact sd T
            refine wA T (g:=?_)
            obtain ⟨⟨v66,v67,v68⟩,h45,hr⟩:=bs hr
            try dsimp only at hr
            apply TD.lok (wn T) rfl goFn14 (Spec.ov (ref07_Copy_spec h45) (by decide)) (vw T) rfl rfl (by simp [clTB,cl,e_iiiii,e_i,e_iiiiiiiii,e_z])
            repeat exact sd T
            refine wA T (g:=?_)
            obtain ⟨⟨v69,v70,v71⟩,h46,hr⟩:=bs hr
            try dsimp only at hr
            apply TD.lok (wn T) rfl goFn28 (Spec.ov (array_PressureAt_spec h46) (by decide)) (vw T) rfl rfl (by simp [clTB,cl,e_iiiii,e_i,e_iiiiiiiii,e_z])
            repeat exact sd T
            refine wa_ T (g:=?_)
            obtain ⟨⟨v72,v73,v74⟩,h47,hr⟩:=bs hr
            try dsimp only at hr
            apply TO.cal (wn T) rfl goFn39 (Spec.ov (law07_parts_spec h47) (by decide)) rfl rfl rfl
            repeat exact sd T
            refine wa_ T (g:=?_)
            obtain ⟨⟨v75,v76,v77⟩,h48,hr⟩:=bs hr
            try dsimp only at hr
            apply TO.cal (wn T) rfl goFn39 (Spec.ov (law07_parts_spec h48) (by decide)) rfl rfl rfl
            repeat exact sd T
            refine wa_ T (g:=?_)
            rcases ifs hr with ⟨h49,hr⟩|⟨h49,hr⟩
            · have T:=an h49 T
              refine wa_ T (g:=?_)
              exact lv T hr
            · have T:=an h49 T
              refine wA T (g:=?_)
              obtain ⟨v78,h50,hr⟩:=bs hr
              apply TO.lok (wn T) rfl goFn18 (Spec.ov (ref07_Same_spec h50) (by decide)) (vw T) rfl rfl (by simp [clTB,cl,e_iiiii,e_i,e_iiiiiiiii,e_z])
              repeat exact sd T
              refine wa_ T (g:=?_)
              apply TO.pop1 (wn T) (pop_not rfl)
              repeat exact sd T
              refine wa_ T (g:=?_)
              rcases ifs hr with ⟨h51,hr⟩|⟨h51,hr⟩
              · have T:=an h51 T
                refine wa_ T (g:=?_)
                rcases ifs hr with ⟨h52,hr⟩|⟨h52,hr⟩
                · have T:=an h52 T
                  refine wa_ T (g:=?_)
                  exact lv T hr
                · have T:=an h52 T
                  refine wa_ T (g:=?_)
                  rcases ifs hr with ⟨h53,hr⟩|⟨h53,hr⟩
                  · have T:=an h53 T
                    refine wa_ T (g:=?_)
                    exact lv T hr
                  · have T:=an h53 T
                    refine wa_ T (g:=?_)
                    apply TO.pop1 (wn T) (pop_not rfl)
                    repeat exact sd T
                    refine wa_ T (g:=?_)
                    rcases ifs hr with ⟨h54,hr⟩|⟨h54,hr⟩
                    · have T:=an h54 T
                      refine wa_ T (g:=?_)
                      apply TO.pop1 (wn T) (pop_not rfl)
                      repeat exact sd T
                      refine wa_ T (g:=?_)
                      rcases ifs hr with ⟨h55,hr⟩|⟨h55,hr⟩
                      · have T:=an h55 T
                        refine wa_ T (g:=?_)
                        obtain ⟨v79,h56,hr⟩:=bs hr
                        apply TO.cal (wn T) rfl goFn17 (Spec.ov (base_Within_spec h56) (by decide)) rfl rfl rfl
                        repeat exact sd T
                        refine wa_ T (g:=?_)
                        apply TO.pop1 (wn T) (pop_not rfl)
                        repeat exact sd T
                        refine wa_ T (g:=?_)
                        rcases ifs hr with ⟨h57,hr⟩|⟨h57,hr⟩
                        · have T:=an h57 T
                          refine wa_ T (g:=?_)
                          obtain ⟨v80,h58,hr⟩:=bs hr
                          apply TO.cal (wn T) rfl goFn17 (Spec.ov (base_Within_spec h58) (by decide)) rfl rfl rfl
                          repeat exact sd T
                          refine wa_ T (g:=?_)
                          apply TO.pop1 (wn T) (pop_not rfl)
                          repeat exact sd T
                          refine wa_ T (g:=?_)
                          rcases ifs hr with ⟨h59,hr⟩|⟨h59,hr⟩
                          · have T:=an h59 T
                            refine wa_ T (g:=?_)
                            obtain ⟨v81,h60,hr⟩:=bs hr
                            apply TO.cal (wn T) rfl goFn17 (Spec.ov (base_Within_spec h60) (by decide)) rfl rfl rfl
                            repeat exact sd T
                            refine wa_ T (g:=?_)
                            apply TO.pop1 (wn T) (pop_not rfl)
                            repeat exact sd T
                            refine wa_ T (g:=?_)
                            rcases ifs hr with ⟨h61,hr⟩|⟨h61,hr⟩
                            · have T:=an h61 T
                              refine wa_ T (g:=?_)
                              obtain ⟨v82,h62,hr⟩:=bs hr
                              apply TO.cal (wn T) rfl goFn17 (Spec.ov (base_Within_spec h62) (by decide)) rfl rfl rfl
                              repeat exact sd T
                              refine wa_ T (g:=?_)
                              apply TO.pop1 (wn T) (pop_not rfl)
                              repeat exact sd T
                              refine wa_ T (g:=?_)
                              rcases ifs hr with ⟨h63,hr⟩|⟨h63,hr⟩
                              · have T:=an h63 T
                                refine wa_ T (g:=?_)
                                rcases ifs hr with ⟨h64,hr⟩|⟨h64,hr⟩
                                · have T:=an h64 T
                                  refine wa_ T (g:=?_)
                                  exact lv T hr
                                · have T:=an h64 T
                                  refine wa_ T (g:=?_)
                                  rcases ifs hr with ⟨h65,hr⟩|⟨h65,hr⟩
                                  · have T:=an h65 T
                                    refine wa_ T (g:=?_)
                                    exact lv T hr
                                  · have T:=an h65 T
                                    refine wa_ T (g:=?_)
                                    exact lv T hr
                              · have T:=an h63 T
                                refine wa_ T (g:=?_)
                                exact lv T hr
                            · have T:=an h61 T
                              refine wa_ T (g:=?_)
                              exact lv T hr
                          · have T:=an h59 T
                            refine wa_ T (g:=?_)
                            exact lv T hr
                        · have T:=an h57 T
                          refine wa_ T (g:=?_)
                          exact lv T hr
                      · have T:=an h55 T
                        refine wa_ T (g:=?_)
                        exact lv T hr
                    · have T:=an h54 T
                      refine wa_ T (g:=?_)
                      exact lv T hr
              · have T:=an h51 T
                refine wa_ T (g:=?_)
                exact lv T hr
        · have T:=an h39 T
          refine wa_ T (g:=?_)
          exact lv T hr
  · have T:=an h2 T
    refine wa_ T (g:=?_)
    exact lv T hr

end Go.Rex
