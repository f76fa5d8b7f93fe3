/- Proofs that the program's functions do what these plain functions say. -/
import Derived.Test.YtpjccpokiaefjaaGreatDoorGB
import Derived.Test.YtpjccpokiaefjaaGreatDoorS
import Derived.Test.YtpjccpokiaefjaaGreatDoorG1
set_option linter.unusedSimpArgs false
set_option linter.unusedVariables false
set_option linter.defProp false
namespace Go.Rex
open Go.Proofs
open Go Go.Rex Go.RowKit
set_option maxRecDepth 100000
set_option maxHeartbeats 4000000
def y56:=an @ag22 <| an @ag24 <| an @ag3 <| an @ag38 <| an @ag45 <| an @ar58 <| an @cs24 <| an @cs3 <| an @cs38 <| an @cs40 <| an @cs45 <| an @cs58 <| an @fd24_2 <| an @fd40_1 <| an @fd45_0 <| an @fd45_1 <| an @ok24 <| an @ok3 <| an @ok38 <| an @ok40 <| an @ok45 <| an @ok58 <| an @so22 <| an @so58 <| an @zc24 <| an @zc45 <| an @zc58 <| an @wi64_0a1 <| @wi64_1a1
theorem law07_ArraySums_law {v1 : Int} {v2 : Int} {v3 : (List (Int × Int × Int × Int × Int))} {v4 : Int} {v5 : Int} {v6 : Int} {v7 : Int} (hr : law07_ArraySums v1 v2 v3 v4 v5 v6 v7 = some true) {Fz : Nat → Prop} {h : List Blk} {vs : List Value} (hfz : ∀ n, Fz n → n < h.length) (hargs : VLs Fz h noL [.agg [.v (.int .i64 v1), .v (.int .i64 v2), .list 5 (v3.map e_iiiii)], .agg [.v (.int .i64 v4), .v (.int .i64 v5), .v (.int .i64 v6)], .v (.int .i64 v7)] vs)
    {B lo : Nat} {D : Nat → Prop} {m : NMap} {w : World} {args' : List Value} (hrel : Rel B lo D m h w) (hlo : lo ≤ h.length) (hargs' : VRs D m vs args') : Calls Tryz.prog 7 ⟨args'⟩ w (fun e w'=>e = .returned (.bool true) ∧ Below w.heap.size w w'):=by
  unfold law07_ArraySums at hr
  have T:=an y56 <| @e_iiiii.eq_1
  refine law_tex follows awake_true Tryz.func7 rfl (tm0:=.agg [.v (.int .i64 v1),.v (.int .i64 v2),.list 5 (v3.map e_iiiii)] :: .agg [.v (.int .i64 v4),.v (.int .i64 v5),.v (.int .i64 v6)] :: .v (.int .i64 v7) :: .junk :: .junk :: .junk :: .junk :: .junk :: .junk :: .junk :: .junk :: .junk :: .junk :: .junk :: .junk :: .junk :: .junk :: .junk :: .junk :: .junk :: .junk :: .junk :: .junk :: .junk :: .junk :: .junk :: .junk :: .junk :: .junk :: .junk :: .junk :: .junk :: .junk :: .junk :: .junk :: .junk :: .junk :: .junk :: .junk :: .junk :: .junk :: .junk :: .junk :: .junk :: .junk :: .junk :: .junk :: .junk :: .junk :: .junk :: .junk :: .junk :: .junk :: .junk :: .junk :: .junk :: .junk :: .junk :: .junk :: .junk :: .junk :: .junk :: .junk :: .junk :: .junk :: .junk :: .junk :: .junk :: .junk :: .junk :: .junk :: .junk :: .junk :: .junk :: .junk :: .junk :: .junk :: .junk :: .junk :: .junk :: .junk :: .junk :: .junk :: .junk :: .junk :: .junk :: .junk :: .junk :: .junk :: .junk :: .junk :: .junk :: .junk :: .junk :: .junk :: .junk :: .junk :: .junk :: .junk :: .junk :: .junk :: .junk :: .junk :: .junk :: .junk :: .junk :: .junk :: .junk :: .junk :: .junk :: .junk :: .junk :: .junk :: .junk :: .junk :: .junk :: .junk :: .junk :: .junk :: .junk :: .junk :: .junk :: .junk :: .junk :: .junk :: .junk :: .junk :: .junk :: .junk :: .junk :: .junk :: .junk :: .junk :: .junk :: .junk :: .junk :: .junk :: .junk :: .junk :: .junk :: .junk :: .junk :: .junk :: .junk :: .junk :: .junk :: .junk :: .junk :: .junk :: .junk :: .junk :: .junk :: .junk :: .junk :: .junk :: .junk :: .junk :: .junk :: .junk :: .junk :: .junk :: .junk :: .junk :: .junk :: .junk :: .junk :: .junk :: .junk :: .junk :: .junk :: .junk :: .junk :: .junk :: .junk :: .junk :: .junk :: .junk :: .junk :: .junk :: .junk :: .junk :: .junk :: .junk :: .junk :: .junk :: .junk :: .junk :: .junk :: .junk :: .junk :: .junk :: .junk :: .junk :: .junk :: .junk :: .junk :: .junk :: .junk :: .junk :: .junk :: .junk :: .junk :: .junk :: .junk :: .junk :: .junk :: .junk :: .junk :: .junk :: .junk :: .junk :: .junk :: .junk :: .junk :: .junk :: .junk :: .junk :: .junk :: .junk :: .junk :: .junk :: .junk :: .junk :: .junk :: .junk :: .junk :: .junk :: .junk :: .junk :: .junk :: .junk :: .junk :: .junk :: .junk :: .junk :: .junk :: .junk :: .junk :: .junk :: .junk :: .junk :: .junk :: .junk :: .junk :: .junk :: .junk :: .junk :: .junk :: .junk :: .junk :: .junk :: .junk :: .junk :: .junk :: .junk :: .junk :: .junk :: .junk :: .junk :: .junk :: .junk :: []) (by simp [Tryz.f7]<;>exact rfl) ?_ hfz hargs hrel hlo hargs'
  refine wb_ T (g:=?_)
  apply TO.cal (wn T) rfl goFn11 Spec.awake rfl rfl rfl
  repeat exact sd T
  refine wa_ T (g:=?_)
  apply TO.pop1 (wn T) (pop_not rfl)
  repeat exact sd T
  refine wC T (g:=?_)
  rcases ifs hr with ⟨h1,hr⟩|⟨h1,hr⟩
  · have T:=an h1 T
    refine wa_ T (g:=?_)
    exact lv T hr
  · have T:=an h1 T
    refine wC T (g:=?_)
    rcases ifs hr with ⟨h2,hr⟩|⟨h2,hr⟩
    · have T:=an h2 T
      refine wa_ T (g:=?_)
      exact lv T hr
    · have T:=an h2 T
      refine wA T (g:=?_)
      obtain ⟨⟨v9,v10,v11⟩,h3,hr⟩:=bs hr
      try dsimp only at hr
      apply TD.cal (wn T) rfl goFn14 (Spec.ov (ref07_Copy_spec h3) (by decide)) rfl rfl rfl
      repeat exact sd T
      refine wA T (g:=?_)
      obtain ⟨⟨v12,v13,v14⟩,h4,hr⟩:=bs hr
      try dsimp only at hr
      apply TD.lok (wn T) rfl goFn28 (Spec.ov (array_PressureAt_spec h4) (by decide)) (vw T) rfl rfl (by simp [clTB,cl,e_iiiii,e_i,e_iiiiiiiii,e_z])
      repeat exact sd T
      refine wa_ T (g:=?_)
      rcases ifs hr with ⟨h5,hr⟩|⟨h5,hr⟩
      · have T:=an h5 T
        refine wa_ T (g:=?_)
        obtain ⟨v15,h6,hr⟩:=bs hr
        apply TO.cal (wn T) rfl goFn33 (Spec.ov (base_SameBits_spec h6) (by decide)) rfl rfl rfl
        repeat exact sd T
        refine wa_ T (g:=?_)
        exact lv T hr
      · have T:=an h5 T
        refine wC T (g:=?_)
        obtain ⟨v16,h7,hr⟩:=bs hr
        apply TO.cal (wn T) rfl goFn40 (Spec.ov (base_Mod_spec h7) (by decide)) rfl rfl rfl
        repeat exact sd T
        refine wA T (g:=?_)
        obtain ⟨⟨v17,v18,v19⟩,h8,hr⟩:=bs hr
        try dsimp only at hr
        apply TO.cal (wn T) rfl goFn14 (Spec.ov (ref07_Copy_spec h8) (by decide)) rfl rfl rfl
        repeat exact sd T
        refine wa_ T (g:=?_)
        obtain ⟨⟨v20,v21,v22,v23⟩,h9,hr⟩:=bs hr
        try dsimp only at hr
        apply TO.lok (wn T) rfl goFn15 (Spec.ov (array_Muted_spec h9) (by decide)) (vw T) rfl rfl (by simp [clTB,cl,e_iiiii,e_i,e_iiiiiiiii,e_z])
        repeat exact sd T
        refine wA T (g:=?_)
        obtain ⟨⟨v24,v25,v26⟩,h10,hr⟩:=bs hr
        try dsimp only at hr
        apply TO.cal (wn T) rfl goFn14 (Spec.ov (ref07_Copy_spec h10) (by decide)) rfl rfl rfl
        repeat exact sd T
        refine wa_ T (g:=?_)
        obtain ⟨v40,h17,hr⟩:=bs hr
        refine TX.loopE (step:=law07_ArraySums_l1 v3 v16) (x:=(v26,0)) h17 (fun (v27,v28)=>⟨.junk :: .junk :: .junk :: .fptr true [.v (.int .i64 v1),.v (.int .i64 v2),.list 5 (v3.map e_iiiii)] 0 :: .fptr true [.v (.int .i64 v4),.v (.int .i64 v5),.v (.int .i64 v6)] 0 :: .junk :: .junk :: .v (.complex .f64 v12 v13) :: .junk :: .v (.int .i64 v16) :: .lptr 0 0 0 :: .v (.int .i64 v23) :: .lptr 2 0 0 :: .v (.int .i64 v28) :: .junk :: .junk :: .junk :: .junk :: .junk :: .junk :: .junk :: .junk :: .junk :: .junk :: .junk :: .junk :: .junk :: .junk :: .junk :: .junk :: .junk :: .junk :: .junk :: .junk :: .junk :: .junk :: .junk :: .junk :: .junk :: .junk :: .junk :: .junk :: .junk :: .junk :: .junk :: .junk :: .junk :: .junk :: .junk :: .junk :: .junk :: .junk :: .junk :: .junk :: .junk :: .junk :: .junk :: .junk :: .junk :: .junk :: .junk :: .junk :: .junk :: .junk :: .junk :: .junk :: .junk :: .junk :: .junk :: .junk :: .junk :: .junk :: .junk :: .junk :: .junk :: .junk :: .junk :: .junk :: .junk :: .junk :: .junk :: .junk :: .junk :: .junk :: .junk :: .junk :: .junk :: .junk :: .junk :: .junk :: .junk :: .junk :: .junk :: .junk :: .junk :: .junk :: .junk :: .junk :: .junk :: .junk :: .junk :: .junk :: .junk :: .junk :: .junk :: .junk :: .junk :: .junk :: .junk :: .junk :: .junk :: .junk :: .junk :: .junk :: .junk :: .junk :: .junk :: .junk :: .junk :: .junk :: .junk :: .junk :: .junk :: .junk :: .junk :: .junk :: .junk :: .junk :: .junk :: .junk :: .junk :: .junk :: .junk :: .junk :: .junk :: .junk :: .junk :: .junk :: .junk :: .junk :: .junk :: .junk :: .junk :: .junk :: .junk :: .junk :: .junk :: .junk :: .junk :: .junk :: .junk :: .junk :: .junk :: .junk :: .junk :: .junk :: .junk :: .junk :: .junk :: .junk :: .junk :: .junk :: .junk :: .junk :: .junk :: .junk :: .junk :: .junk :: .junk :: .junk :: .junk :: .junk :: .junk :: .junk :: .junk :: .junk :: .junk :: .junk :: .junk :: .junk :: .junk :: .junk :: .junk :: .junk :: .junk :: .junk :: .junk :: .junk :: .junk :: .junk :: .junk :: .junk :: .junk :: .junk :: .junk :: .junk :: .junk :: .junk :: .junk :: .junk :: .junk :: .junk :: .junk :: .junk :: .junk :: .junk :: .junk :: .junk :: .junk :: .junk :: .junk :: .junk :: .junk :: .junk :: .junk :: .junk :: .junk :: .junk :: .junk :: .junk :: .junk :: .junk :: .junk :: .junk :: .junk :: .junk :: .junk :: .junk :: .junk :: .junk :: .junk :: .junk :: .junk :: .junk :: .junk :: .junk :: .junk :: .junk :: .junk :: .junk :: .junk :: .junk :: .junk :: .junk :: .junk :: .junk :: .junk :: .junk :: .junk :: .junk :: .junk :: .junk :: .junk :: .junk :: .junk :: .junk :: .junk :: .junk :: .junk :: .junk :: .junk :: [],[.var [.v (.int .i64 v20),.v (.int .i64 v21),.lsl 1 0 v22.length],.rows 5 (v22.map e_iiiii),.var [.v (.int .i64 v24),.v (.int .i64 v25),.lsl 3 0 v27.length],.rows 5 (v27.map e_iiiii)]⟩) (fun v34=>(.exit 0,⟨.junk :: .junk :: .junk :: .fptr true [.v (.int .i64 v1),.v (.int .i64 v2),.list 5 (v3.map e_iiiii)] 0 :: .fptr true [.v (.int .i64 v4),.v (.int .i64 v5),.v (.int .i64 v6)] 0 :: .junk :: .junk :: .v (.complex .f64 v12 v13) :: .junk :: .junk :: .lptr 0 0 0 :: .v (.int .i64 v23) :: .lptr 2 0 0 :: .junk :: .junk :: .junk :: .junk :: .junk :: .junk :: .junk :: .junk :: .junk :: .junk :: .junk :: .junk :: .junk :: .junk :: .junk :: .junk :: .junk :: .junk :: .junk :: .junk :: .junk :: .junk :: .junk :: .junk :: .junk :: .junk :: .junk :: .junk :: .junk :: .junk :: .junk :: .junk :: .junk :: .junk :: .junk :: .junk :: .junk :: .junk :: .junk :: .junk :: .junk :: .junk :: .junk :: .junk :: .junk :: .junk :: .junk :: .junk :: .junk :: .junk :: .junk :: .junk :: .junk :: .junk :: .junk :: .junk :: .junk :: .junk :: .junk :: .junk :: .junk :: .junk :: .junk :: .junk :: .junk :: .junk :: .junk :: .junk :: .junk :: .junk :: .junk :: .junk :: .junk :: .junk :: .junk :: .junk :: .junk :: .junk :: .junk :: .junk :: .junk :: .junk :: .junk :: .junk :: .junk :: .junk :: .junk :: .junk :: .junk :: .junk :: .junk :: .junk :: .junk :: .junk :: .junk :: .junk :: .junk :: .junk :: .junk :: .junk :: .junk :: .junk :: .junk :: .junk :: .junk :: .junk :: .junk :: .junk :: .junk :: .junk :: .junk :: .junk :: .junk :: .junk :: .junk :: .junk :: .junk :: .junk :: .junk :: .junk :: .junk :: .junk :: .junk :: .junk :: .junk :: .junk :: .junk :: .junk :: .junk :: .junk :: .junk :: .junk :: .junk :: .junk :: .junk :: .junk :: .junk :: .junk :: .junk :: .junk :: .junk :: .junk :: .junk :: .junk :: .junk :: .junk :: .junk :: .junk :: .junk :: .junk :: .junk :: .junk :: .junk :: .junk :: .junk :: .junk :: .junk :: .junk :: .junk :: .junk :: .junk :: .junk :: .junk :: .junk :: .junk :: .junk :: .junk :: .junk :: .junk :: .junk :: .junk :: .junk :: .junk :: .junk :: .junk :: .junk :: .junk :: .junk :: .junk :: .junk :: .junk :: .junk :: .junk :: .junk :: .junk :: .junk :: .junk :: .junk :: .junk :: .junk :: .junk :: .junk :: .junk :: .junk :: .junk :: .junk :: .junk :: .junk :: .junk :: .junk :: .junk :: .junk :: .junk :: .junk :: .junk :: .junk :: .junk :: .junk :: .junk :: .junk :: .junk :: .junk :: .junk :: .junk :: .junk :: .junk :: .junk :: .junk :: .junk :: .junk :: .junk :: .junk :: .junk :: .junk :: .junk :: .junk :: .junk :: .junk :: .junk :: .junk :: .junk :: .junk :: .junk :: .junk :: .junk :: .junk :: .junk :: .junk :: .junk :: .junk :: .junk :: .junk :: .junk :: .junk :: .junk :: .junk :: .junk :: .junk :: [],[.var [.v (.int .i64 v20),.v (.int .i64 v21),.lsl 1 0 v22.length],.rows 5 (v22.map e_iiiii),.var [.v (.int .i64 v24),.v (.int .i64 v25),.lsl 3 0 v34.length],.rows 5 (v34.map e_iiiii)]⟩)) ?_ ?_ ?_ ?_
        · rintro ⟨v27,v28⟩ v0 hr
          dsimp only [law07_ArraySums_l1] at hr
          try dsimp only
          refine wC T (g:=?_)
          rcases ifs hr with ⟨h14,hr⟩|⟨h14,hr⟩
          · have T:=an h14 T
            refine wa_ T (g:=?_)
            rcases ifs hr with ⟨h15,hr⟩|⟨h15,hr⟩
            · have T:=an h15 T
              refine wA T (g:=?_)
              obtain ⟨⟨v35,v36,v37,v38,v39⟩,h16,hr⟩:=bs hr
              try dsimp only at hr
              have h16m:=tidx_map (f:=e_iiiii) h16
              have h16l:=getI_lt h16
              try simp only [List.length_set] at h16l
              have h16a:=getI_at h16
              have T:=an h16m T
              have T:=an h16l T
              have T:=an h16a T
              refine wa_ T (g:=?_)
              apply TO.sr e_iiiii v27 (v35,v36,v37,v38,v39) (v35,v36,v37,0,v39) h16a (wn T) rfl rfl rfl rfl rfl ok3 (by rw [cs3];rfl) rfl rfl rfl rfl
              repeat exact sd T
              refine wa_ T (g:=?_)
              cases hr
              refine ⟨rfl,?_⟩
              exact wk_ T [some 0,some 1,some 2,some 3] rfl (rv (.rows (rv (.rows .nil rfl rfl) rfl) rfl rfl) rfl)
            · have T:=an h15 T
              refine wa_ T (g:=?_)
              cases hr
              refine ⟨rfl,?_⟩
              exact wk_ T [some 0,some 1,some 2,some 3] rfl (rv (.rows (rv (.rows .nil rfl rfl) rfl) rfl rfl) rfl)
          · have T:=an h14 T
            refine wa_ T (g:=?_)
            cases hr
            refine ⟨rfl,?_⟩
            exact wk_ T [some 0,some 1,some 2,some 3] rfl (rv (.rows (rv (.rows .nil rfl rfl) rfl) rfl rfl) rfl)
        · intro e h;cases h
        · try dsimp only
          refine wA T (g:=?_)
          obtain ⟨⟨v41,v42,v43⟩,h18,hr⟩:=bs hr
          try dsimp only at hr
          apply TD.lok (wn T) rfl goFn14 (Spec.ov (ref07_Copy_spec h18) (by decide)) (vw T) rfl rfl (by simp [clTB,cl,e_iiiii,e_i,e_iiiiiiiii,e_z])
          repeat exact sd T
          refine wA T (g:=?_)
          obtain ⟨⟨v44,v45,v46⟩,h19,hr⟩:=bs hr
          try dsimp only at hr
          apply TD.lok (wn T) rfl goFn28 (Spec.ov (array_PressureAt_spec h19) (by decide)) (vw T) rfl rfl (by simp [clTB,cl,e_iiiii,e_i,e_iiiiiiiii,e_z])
          repeat exact sd T
          refine wA T (g:=?_)
          obtain ⟨⟨v47,v48,v49⟩,h20,hr⟩:=bs hr
          try dsimp only at hr
          apply TD.lok (wn T) rfl goFn14 (Spec.ov (ref07_Copy_spec h20) (by decide)) (vw T) rfl rfl (by simp [clTB,cl,e_iiiii,e_i,e_iiiiiiiii,e_z])
          repeat exact sd T
          refine wA T (g:=?_)
          obtain ⟨⟨v50,v51,v52⟩,h21,hr⟩:=bs hr
          try dsimp only at hr
          apply TD.lok (wn T) rfl goFn28 (Spec.ov (array_PressureAt_spec h21) (by decide)) (vw T) rfl rfl (by simp [clTB,cl,e_iiiii,e_i,e_iiiiiiiii,e_z])
          repeat exact sd T
          refine wa_ T (g:=?_)
          obtain ⟨⟨v53,v54,v55⟩,h22,hr⟩:=bs hr
          try dsimp only at hr
          apply TO.cal (wn T) rfl goFn39 (Spec.ov (law07_parts_spec h22) (by decide)) rfl rfl rfl
          repeat exact sd T
          refine wa_ T (g:=?_)
          obtain ⟨⟨v56,v57,v58⟩,h23,hr⟩:=bs hr
          try dsimp only at hr
          apply TO.cal (wn T) rfl goFn39 (Spec.ov (law07_parts_spec h23) (by decide)) rfl rfl rfl
          repeat exact sd T
          refine wa_ T (g:=?_)
          rcases ifs hr with ⟨h24,hr⟩|⟨h24,hr⟩
          · have T:=an h24 T
            refine wa_ T (g:=?_)
            exact lv T hr
          · have T:=an h24 T
            refine wa_ T (g:=?_)
            rcases ifs hr with ⟨h25,hr⟩|⟨h25,hr⟩
            · have T:=an h25 T
              refine wa_ T (g:=?_)
              exact lv T hr
            · have T:=an h25 T
              refine wa_ T (g:=?_)
              rcases ifs hr with ⟨h26,hr⟩|⟨h26,hr⟩
              · have T:=an h26 T
                refine wa_ T (g:=?_)
                exact lv T hr
              · have T:=an h26 T
                refine wa_ T (g:=?_)
                apply TO.pop1 (wn T) (pop_not rfl)
                repeat exact sd T
                refine wa_ T (g:=?_)
                rcases ifs hr with ⟨h27,hr⟩|⟨h27,hr⟩
                · have T:=an h27 T
                  refine wa_ T (g:=?_)
                  apply TO.pop1 (wn T) (pop_not rfl)
                  repeat exact sd T
                  refine wa_ T (g:=?_)
                  rcases ifs hr with ⟨h28,hr⟩|⟨h28,hr⟩
                  · have T:=an h28 T
                    refine wa_ T (g:=?_)
                    obtain ⟨⟨v59,v60⟩,h29,hr⟩:=bs hr
                    try dsimp only at hr
                    apply TO.cal (wn T) rfl goFn35 (Spec.ov (base_Num_spec h29) (by decide)) rfl rfl rfl
                    repeat exact sd T
                    refine wa_ T (g:=?_)
                    obtain ⟨v61,h30,hr⟩:=bs hr
                    apply TO.cal (wn T) rfl goFn33 (Spec.ov (base_SameBits_spec h30) (by decide)) rfl rfl rfl
                    repeat exact sd T
                    refine wa_ T (g:=?_)
                    apply TO.pop1 (wn T) (pop_not rfl)
                    repeat exact sd T
                    refine wa_ T (g:=?_)
                    rcases ifs hr with ⟨h31,hr⟩|⟨h31,hr⟩
                    · have T:=an h31 T
                      refine wA T (g:=?_)
                      obtain ⟨⟨v62,v63,v64⟩,h32,hr⟩:=bs hr
                      try dsimp only at hr
                      apply TD.cal (wn T) rfl goFn14 (Spec.ov (ref07_Copy_spec h32) (by decide)) rfl rfl rfl
                      repeat exact sd T
                      refine wA T (g:=?_)
                      obtain ⟨⟨v65,v66,v67,v68,v69⟩,h33,hr⟩:=bs hr
                      try dsimp only at hr
                      apply TD.lok (wn T) rfl goFn29 (Spec.ov (array_EndsAt_spec h33) (by decide)) (vw T) rfl rfl (by simp [clTB,cl,e_iiiii,e_i,e_iiiiiiiii,e_z])
                      repeat exact sd T
                      refine wA T (g:=?_)
                      obtain ⟨⟨v70,v71,v72⟩,h34,hr⟩:=bs hr
                      try dsimp only at hr
                      apply TD.lok (wn T) rfl goFn14 (Spec.ov (ref07_Copy_spec h34) (by decide)) (vw T) rfl rfl (by simp [clTB,cl,e_iiiii,e_i,e_iiiiiiiii,e_z])
                      repeat exact sd T
                      refine wA T (g:=?_)
                      obtain ⟨⟨v73,v74,v75,v76,v77⟩,h35,hr⟩:=bs hr
                      try dsimp only at hr
                      apply TD.lok (wn T) rfl goFn29 (Spec.ov (array_EndsAt_spec h35) (by decide)) (vw T) rfl rfl (by simp [clTB,cl,e_iiiii,e_i,e_iiiiiiiii,e_z])
                      repeat exact sd T
                      refine wA T (g:=?_)
                      obtain ⟨⟨v78,v79,v80⟩,h36,hr⟩:=bs hr
                      try dsimp only at hr
                      apply TD.lok (wn T) rfl goFn14 (Spec.ov (ref07_Copy_spec h36) (by decide)) (vw T) rfl rfl (by simp [clTB,cl,e_iiiii,e_i,e_iiiiiiiii,e_z])
                      repeat exact sd T
                      refine wA T (g:=?_)
                      obtain ⟨⟨v81,v82,v83,v84,v85⟩,h37,hr⟩:=bs hr
                      try dsimp only at hr
                      apply TD.lok (wn T) rfl goFn29 (Spec.ov (array_EndsAt_spec h37) (by decide)) (vw T) rfl rfl (by simp [clTB,cl,e_iiiii,e_i,e_iiiiiiiii,e_z])
                      repeat exact sd T
                      refine wa_ T (g:=?_)
                      refine TX.unroll ?_
                      repeat (first|(with_reducible first|refine mv ?_|refine TO.nil ?_)|((with_reducible first|apply TO.mv|apply TO.bin);(repeat (focus (show _ = _;first|exact k1 rfl|exact k2 rfl|(simp only [zz,y56,e_iiiii,Nat.reduceAdd,Nat.reduceMul,Nat.reduceLeDiff,Nat.reduceEqDiff,h1,h2,h5,h24,h25,h26,h27,h28,h31]<;>exact rfl)|exact rfl)));(with_reducible apply TO.here))|((with_reducible apply TX.region);(focus (simp only [zl]<;>exact rfl));(focus rfl);(try dsimp only))|with_reducible refine TD.nil ?_|((with_reducible first|apply TD.mv|apply TD.ia|apply TD.fa|apply TD.ld|apply TD.bin);(repeat (focus (show _ = _;first|exact k1 rfl|exact k2 rfl|(simp only [zz,y56,e_iiiii,Nat.reduceAdd,Nat.reduceMul,Nat.reduceLeDiff,Nat.reduceEqDiff,tindexAddr,z5,Int.reduceToNat,Int.reduceLE,Int.reduceLT,Int.cast_ofNat_Int,tfieldAddr,tload,rowOf,partT,List.getElem?_map,h1,h2,h5,h24,h25,h26,h27,h28,h31]<;>exact rfl)|exact rfl)));(with_reducible refine TD.here ?_))|((with_reducible apply TX.drawn);(focus decide +kernel);(focus (simp only [zl]<;>exact rfl));(focus exact rfl);(try dsimp only))|((with_reducible apply TX.cond_true);(focus rfl);(focus (first|rfl|(simp only [z1,zn,h1,h2,h5,h24,h25,h26,h27,h28,h31];done))))|((with_reducible apply TX.cond_false);(focus rfl);(focus (first|rfl|(simp only [z1,zn,h1,h2,h5,h24,h25,h26,h27,h28,h31];done))))|fail)
                      rcases ifs hr with ⟨h38,hr⟩|⟨h38,hr⟩
                      · have T:=an h38 T
                        refine wa_ T (g:=?_)
                        exact lv T hr
                      · repeat (first|(with_reducible first|refine mv ?_|refine TD.nil ?_)|((with_reducible first|apply TD.mv|apply TD.ia|apply TD.fa|apply TD.ld|apply TD.bin|apply TD.pk);(repeat (focus (show _ = _;first|exact k1 rfl|exact k2 rfl|(simp only [zz,y56,e_iiiii,Nat.reduceAdd,Nat.reduceMul,Nat.reduceLeDiff,Nat.reduceEqDiff,tindexAddr,z5,Int.reduceToNat,Int.reduceLE,Int.reduceLT,Int.cast_ofNat_Int,tfieldAddr,tload,rowOf,partT,List.getElem?_map,h1,h2,h5,h24,h25,h26,h27,h28,h31,h38]<;>exact rfl)|exact rfl)));(with_reducible refine TD.here ?_))|((with_reducible apply TX.drawn);(focus decide +kernel);(focus (simp only [zl]<;>exact rfl));(focus exact rfl);(try dsimp only))|((with_reducible apply TX.cond_true);(focus rfl);(focus (first|rfl|(simp only [z1,zn,h1,h2,h5,h24,h25,h26,h27,h28,h31,h38];done))))|((with_reducible apply TX.cond_false);(focus rfl);(focus (first|rfl|(simp only [z1,zn,h1,h2,h5,h24,h25,h26,h27,h28,h31,h38];done))))|fail)
                        rcases ifs hr with ⟨h39,hr⟩|⟨h39,hr⟩
                        · have T:=an h38 T
                          have T:=an h39 T
                          refine wa_ T (g:=?_)
                          exact lv T hr
                        · have T:=an h38 T
                          have T:=an h39 T
                          refine wa_ T (g:=?_)
                          refine TX.unroll ?_
                          repeat (first|(with_reducible first|refine mv ?_|refine TO.nil ?_)|((with_reducible first|apply TO.mv|apply TO.bin);(repeat (focus (show _ = _;first|exact k1 rfl|exact k2 rfl|(simp only [zz,y56,e_iiiii,Nat.reduceAdd,Nat.reduceMul,Nat.reduceLeDiff,Nat.reduceEqDiff,h1,h2,h5,h24,h25,h26,h27,h28,h31,h38,h39]<;>exact rfl)|exact rfl)));(with_reducible apply TO.here))|((with_reducible apply TX.region);(focus (simp only [zl]<;>exact rfl));(focus rfl);(try dsimp only))|with_reducible refine TD.nil ?_|((with_reducible first|apply TD.mv|apply TD.ia|apply TD.fa|apply TD.ld|apply TD.bin);(repeat (focus (show _ = _;first|exact k1 rfl|exact k2 rfl|(simp only [zz,y56,e_iiiii,Nat.reduceAdd,Nat.reduceMul,Nat.reduceLeDiff,Nat.reduceEqDiff,tindexAddr,z5,Int.reduceToNat,Int.reduceLE,Int.reduceLT,Int.cast_ofNat_Int,tfieldAddr,tload,rowOf,partT,List.getElem?_map,h1,h2,h5,h24,h25,h26,h27,h28,h31,h38,h39]<;>exact rfl)|exact rfl)));(with_reducible refine TD.here ?_))|((with_reducible apply TX.drawn);(focus decide +kernel);(focus (simp only [zl]<;>exact rfl));(focus exact rfl);(try dsimp only))|((with_reducible apply TX.cond_true);(focus rfl);(focus (first|rfl|(simp only [z1,zn,h1,h2,h5,h24,h25,h26,h27,h28,h31,h38,h39];done))))|((with_reducible apply TX.cond_false);(focus rfl);(focus (first|rfl|(simp only [z1,zn,h1,h2,h5,h24,h25,h26,h27,h28,h31,h38,h39];done))))|fail)
                          rcases ifs hr with ⟨h40,hr⟩|⟨h40,hr⟩
                          · have T:=an h40 T
                            refine wa_ T (g:=?_)
                            exact lv T hr
                          · repeat (first|(with_reducible first|refine mv ?_|refine TD.nil ?_)|((with_reducible first|apply TD.mv|apply TD.ia|apply TD.fa|apply TD.ld|apply TD.bin|apply TD.pk);(repeat (focus (show _ = _;first|exact k1 rfl|exact k2 rfl|(simp only [zz,y56,e_iiiii,Nat.reduceAdd,Nat.reduceMul,Nat.reduceLeDiff,Nat.reduceEqDiff,tindexAddr,z5,Int.reduceToNat,Int.reduceLE,Int.reduceLT,Int.cast_ofNat_Int,tfieldAddr,tload,rowOf,partT,List.getElem?_map,h1,h2,h5,h24,h25,h26,h27,h28,h31,h38,h39,h40]<;>exact rfl)|exact rfl)));(with_reducible refine TD.here ?_))|((with_reducible apply TX.drawn);(focus decide +kernel);(focus (simp only [zl]<;>exact rfl));(focus exact rfl);(try dsimp only))|((with_reducible apply TX.cond_true);(focus rfl);(focus (first|rfl|(simp only [z1,zn,h1,h2,h5,h24,h25,h26,h27,h28,h31,h38,h39,h40];done))))|((with_reducible apply TX.cond_false);(focus rfl);(focus (first|rfl|(simp only [z1,zn,h1,h2,h5,h24,h25,h26,h27,h28,h31,h38,h39,h40];done))))|fail)
                            rcases ifs hr with ⟨h41,hr⟩|⟨h41,hr⟩
                            · have T:=an h40 T
                              have T:=an h41 T
                              refine wa_ T (g:=?_)
                              exact lv T hr
                            · have T:=an h40 T
                              have T:=an h41 T
                              refine wa_ T (g:=?_)
                              obtain ⟨_,h42,hr⟩:=bs hr
                              refine TX.loopE (step:=law07_ArraySums_l2) (x:=()) h42 (fun _=>⟨.junk :: .junk :: .junk :: .fptr true [.v (.int .i64 v1),.v (.int .i64 v2),.list 5 (v3.map e_iiiii)] 0 :: .fptr true [.v (.int .i64 v4),.v (.int .i64 v5),.v (.int .i64 v6)] 0 :: .junk :: .junk :: .junk :: .junk :: .junk :: .lptr 0 0 0 :: .junk :: .lptr 2 0 0 :: .junk :: .junk :: .junk :: .junk :: .junk :: .junk :: .junk :: .junk :: .junk :: .junk :: .junk :: .lptr 4 0 0 :: .v (.int .i64 v69) :: .lptr 5 0 0 :: .v (.int .i64 v77) :: .lptr 6 0 0 :: .v (.int .i64 v85) :: .v (.int .i64 2) :: .junk :: .junk :: .junk :: .junk :: .junk :: .junk :: .junk :: .junk :: .junk :: .junk :: .junk :: .junk :: .junk :: .junk :: .junk :: .junk :: .junk :: .junk :: .junk :: .junk :: .junk :: .junk :: .junk :: .junk :: .junk :: .junk :: .junk :: .junk :: .junk :: .junk :: .junk :: .junk :: .junk :: .junk :: .junk :: .junk :: .junk :: .junk :: .junk :: .junk :: .junk :: .junk :: .junk :: .junk :: .junk :: .junk :: .junk :: .junk :: .junk :: .junk :: .junk :: .junk :: .junk :: .junk :: .junk :: .junk :: .junk :: .junk :: .junk :: .junk :: .junk :: .junk :: .junk :: .junk :: .junk :: .junk :: .junk :: .junk :: .junk :: .junk :: .junk :: .junk :: .junk :: .junk :: .junk :: .junk :: .junk :: .junk :: .junk :: .junk :: .junk :: .junk :: .junk :: .junk :: .junk :: .junk :: .junk :: .junk :: .junk :: .junk :: .junk :: .junk :: .junk :: .junk :: .junk :: .junk :: .junk :: .junk :: .junk :: .junk :: .junk :: .junk :: .junk :: .junk :: .junk :: .junk :: .junk :: .junk :: .junk :: .junk :: .junk :: .junk :: .junk :: .junk :: .junk :: .junk :: .junk :: .junk :: .junk :: .junk :: .junk :: .junk :: .junk :: .junk :: .junk :: .junk :: .junk :: .junk :: .junk :: .junk :: .junk :: .junk :: .junk :: .junk :: .junk :: .junk :: .junk :: .junk :: .junk :: .junk :: .junk :: .junk :: .junk :: .junk :: .junk :: .junk :: .junk :: .junk :: .junk :: .junk :: .junk :: .junk :: .junk :: .junk :: .junk :: .junk :: .junk :: .junk :: .junk :: .junk :: .junk :: .junk :: .junk :: .junk :: .junk :: .junk :: .junk :: .junk :: .junk :: .junk :: .junk :: .junk :: .junk :: .junk :: .junk :: .junk :: .junk :: .junk :: .junk :: .junk :: .junk :: .junk :: .junk :: .junk :: .junk :: .junk :: .junk :: .junk :: .junk :: .junk :: .junk :: .junk :: .junk :: .junk :: .junk :: .junk :: .junk :: .junk :: .junk :: .junk :: .junk :: .junk :: .junk :: .junk :: .junk :: .junk :: .junk :: .junk :: .junk :: .junk :: .junk :: .junk :: .junk :: .junk :: .junk :: .junk :: .junk :: .junk :: .junk :: .junk :: .junk :: .junk :: .junk :: .junk :: .junk :: .junk :: .junk :: .junk :: .junk :: .junk :: [],[.var [.v (.int .i64 v20),.v (.int .i64 v21),.lsl 1 0 v22.length],.rows 5 (v22.map e_iiiii),.var [.v (.int .i64 v24),.v (.int .i64 v25),.lsl 3 0 v40.length],.rows 5 (v40.map e_iiiii),.var [.v (.int .i64 v65),.v (.int .i64 v66),.v (.int .i64 v67),.v (.int .i64 v68)],.var [.v (.int .i64 v73),.v (.int .i64 v74),.v (.int .i64 v75),.v (.int .i64 v76)],.var [.v (.int .i64 v81),.v (.int .i64 v82),.v (.int .i64 v83),.v (.int .i64 v84)]]⟩) (fun _=>(.exit 2,⟨.junk :: .junk :: .junk :: .fptr true [.v (.int .i64 v1),.v (.int .i64 v2),.list 5 (v3.map e_iiiii)] 0 :: .fptr true [.v (.int .i64 v4),.v (.int .i64 v5),.v (.int .i64 v6)] 0 :: .junk :: .junk :: .junk :: .junk :: .junk :: .lptr 0 0 0 :: .junk :: .lptr 2 0 0 :: .junk :: .junk :: .junk :: .junk :: .junk :: .junk :: .junk :: .junk :: .junk :: .junk :: .junk :: .junk :: .v (.int .i64 v69) :: .junk :: .v (.int .i64 v77) :: .junk :: .v (.int .i64 v85) :: .junk :: .junk :: .junk :: .junk :: .junk :: .junk :: .junk :: .junk :: .junk :: .junk :: .junk :: .junk :: .junk :: .junk :: .junk :: .junk :: .junk :: .junk :: .junk :: .junk :: .junk :: .junk :: .junk :: .junk :: .junk :: .junk :: .junk :: .junk :: .junk :: .junk :: .junk :: .junk :: .junk :: .junk :: .junk :: .junk :: .junk :: .junk :: .junk :: .junk :: .junk :: .junk :: .junk :: .junk :: .junk :: .junk :: .junk :: .junk :: .junk :: .junk :: .junk :: .junk :: .junk :: .junk :: .junk :: .junk :: .junk :: .junk :: .junk :: .junk :: .junk :: .junk :: .junk :: .junk :: .junk :: .junk :: .junk :: .junk :: .junk :: .junk :: .junk :: .junk :: .junk :: .junk :: .junk :: .junk :: .junk :: .junk :: .junk :: .junk :: .junk :: .junk :: .junk :: .junk :: .junk :: .junk :: .junk :: .junk :: .junk :: .junk :: .junk :: .junk :: .junk :: .junk :: .junk :: .junk :: .junk :: .junk :: .junk :: .junk :: .junk :: .junk :: .junk :: .junk :: .junk :: .junk :: .junk :: .junk :: .junk :: .junk :: .junk :: .junk :: .junk :: .junk :: .junk :: .junk :: .junk :: .junk :: .junk :: .junk :: .junk :: .junk :: .junk :: .junk :: .junk :: .junk :: .junk :: .junk :: .junk :: .junk :: .junk :: .junk :: .junk :: .junk :: .junk :: .junk :: .junk :: .junk :: .junk :: .junk :: .junk :: .junk :: .junk :: .junk :: .junk :: .junk :: .junk :: .junk :: .junk :: .junk :: .junk :: .junk :: .junk :: .junk :: .junk :: .junk :: .junk :: .junk :: .junk :: .junk :: .junk :: .junk :: .junk :: .junk :: .junk :: .junk :: .junk :: .junk :: .junk :: .junk :: .junk :: .junk :: .junk :: .junk :: .junk :: .junk :: .junk :: .junk :: .junk :: .junk :: .junk :: .junk :: .junk :: .junk :: .junk :: .junk :: .junk :: .junk :: .junk :: .junk :: .junk :: .junk :: .junk :: .junk :: .junk :: .junk :: .junk :: .junk :: .junk :: .junk :: .junk :: .junk :: .junk :: .junk :: .junk :: .junk :: .junk :: .junk :: .junk :: .junk :: .junk :: .junk :: .junk :: .junk :: .junk :: .junk :: .junk :: .junk :: .junk :: .junk :: .junk :: .junk :: .junk :: .junk :: .junk :: .junk :: .junk :: .junk :: .junk :: .junk :: .junk :: [],[.var [.v (.int .i64 v20),.v (.int .i64 v21),.lsl 1 0 v22.length],.rows 5 (v22.map e_iiiii),.var [.v (.int .i64 v24),.v (.int .i64 v25),.lsl 3 0 v40.length],.rows 5 (v40.map e_iiiii)]⟩)) ?_ ?_ ?_ ?_
                              · rintro _ v0 hr
                                dsimp only [law07_ArraySums_l2] at hr
                                try dsimp only
                                refine wa_ T (g:=?_)
                                cases hr
                                refine ⟨rfl,?_⟩
                                exact wk_ T [some 0,some 1,some 2,some 3] rfl (rv (.rows (rv (.rows .nil rfl rfl) rfl) rfl rfl) rfl)
                              · intro e h;cases h
                              · try dsimp only
                                refine wA T (g:=?_)
                                obtain ⟨⟨v86,v87,v88⟩,h43,hr⟩:=bs hr
                                try dsimp only at hr
                                apply TD.cal (wn T) rfl goFn14 (Spec.ov (ref07_Copy_spec h43) (by decide)) rfl rfl rfl
                                repeat exact sd T
                                refine wA T (g:=?_)
                                obtain ⟨⟨v89,v90,v91⟩,h44,hr⟩:=bs hr
                                try dsimp only at hr
                                apply TD.lok (wn T) rfl goFn31 (Spec.ov (array_EnergyAt_spec h44) (by decide)) (vw T) rfl rfl (by simp [clTB,cl,e_iiiii,e_i,e_iiiiiiiii,e_z])
                                repeat exact sd T
                                refine wA T (g:=?_)
                                obtain ⟨⟨v92,v93,v94⟩,h45,hr⟩:=bs hr
                                try dsimp only at hr
                                apply TO.lok (wn T) rfl goFn31 (Spec.ov (array_EnergyAt_spec h45) (by decide)) (vw T) rfl rfl (by simp [clTB,cl,e_iiiii,e_i,e_iiiiiiiii,e_z])
                                repeat exact sd T
                                refine wA T (g:=?_)
                                obtain ⟨⟨v95,v96,v97⟩,h46,hr⟩:=bs hr
                                try dsimp only at hr
                                apply TO.lok (wn T) rfl goFn31 (Spec.ov (array_EnergyAt_spec h46) (by decide)) (vw T) rfl rfl (by simp [clTB,cl,e_iiiii,e_i,e_iiiiiiiii,e_z])
                                repeat exact sd T
                                refine wa_ T (g:=?_)
                                rcases ifs hr with ⟨h47,hr⟩|⟨h47,hr⟩
                                · have T:=an h47 T
                                  refine wa_ T (g:=?_)
                                  rcases ifs hr with ⟨h48,hr⟩|⟨h48,hr⟩
                                  · have T:=an h48 T
                                    refine wa_ T (g:=?_)
                                    rcases ifs hr with ⟨h49,hr⟩|⟨h49,hr⟩
                                    · have T:=an h49 T
                                      refine wa_ T (g:=?_)
                                      rcases ifs hr with ⟨h50,hr⟩|⟨h50,hr⟩
                                      · have T:=an h50 T
                                        refine wa_ T (g:=?_)
                                        rcases ifs hr with ⟨h51,hr⟩|⟨h51,hr⟩
                                        · have T:=an h51 T
                                          refine wa_ T (g:=?_)
                                          rcases ifs hr with ⟨h52,hr⟩|⟨h52,hr⟩
                                          · have T:=an h52 T
                                            refine wA T (g:=?_)
                                            rcases ifs hr with ⟨h53,hr⟩|⟨h53,hr⟩
                                            · have T:=an h53 T
                                              refine wA T (g:=?_)
                                              exact lv T hr
                                            · have T:=an h53 T
                                              refine wa_ T (g:=?_)
                                              exact lv T hr
                                          · have T:=an h52 T
                                            refine wa_ T (g:=?_)
                                            exact lv T hr
                                        · have T:=an h51 T
                                          refine wa_ T (g:=?_)
                                          exact lv T hr
                                      · have T:=an h50 T
                                        refine wa_ T (g:=?_)
                                        exact lv T hr
                                    · have T:=an h49 T
                                      refine wa_ T (g:=?_)
                                      exact lv T hr
                                  · have T:=an h48 T
                                    refine wa_ T (g:=?_)
                                    exact lv T hr
                                · have T:=an h47 T
                                  refine wa_ T (g:=?_)
                                  exact lv T hr
                              · try dsimp only
                                exact wk_ T [some 0,some 1,some 2,some 3,some 7,some 9,some 11] rfl (rv (.rows (rv (.rows (rv (rv (rv .nil rfl) rfl) rfl) rfl rfl) rfl) rfl rfl) rfl)
                    · have T:=an h31 T
                      refine wa_ T (g:=?_)
                      exact lv T hr
                  · have T:=an h28 T
                    refine wa_ T (g:=?_)
                    exact lv T hr
                · have T:=an h27 T
                  refine wa_ T (g:=?_)
                  exact lv T hr
        · try dsimp only
          exact wk_ T [some 3,some 2,some 5,some 4] rfl (rv (.rows (rv (.rows .nil rfl rfl) rfl) rfl rfl) rfl)

end Go.Rex
