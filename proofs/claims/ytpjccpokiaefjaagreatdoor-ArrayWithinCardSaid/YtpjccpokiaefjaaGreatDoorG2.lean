/- Proofs that the program's functions do what these plain functions say. -/
import Derived.Test.YtpjccpokiaefjaaGreatDoorGB
import Derived.Test.YtpjccpokiaefjaaGreatDoorS
import Derived.Test.YtpjccpokiaefjaaGreatDoorG1
set_option linter.unusedSimpArgs false
set_option linter.unusedVariables false
set_option linter.defProp false
namespace Go.Rex
open Go.Proofs
open Go Go.Rex Go.RowKit
set_option maxRecDepth 100000
set_option maxHeartbeats 4000000
def y53:=an @ag22 <| an @ag24 <| an @ag3 <| an @ag38 <| an @ar58 <| an @cs24 <| an @cs3 <| an @cs38 <| an @cs40 <| an @cs45 <| an @cs58 <| an @fd24_2 <| an @fd40_1 <| an @fd40_2 <| an @fd45_0 <| an @fd45_1 <| an @ok24 <| an @ok3 <| an @ok38 <| an @ok40 <| an @ok45 <| an @ok58 <| an @so22 <| an @so58 <| an @zc24 <| an @zc45 <| an @zc58 <| @wi64_0a1
theorem law07_ArrayWithin_law {v1 : Int} {v2 : Int} {v3 : (List (Int × Int × Int × Int × Int))} {v4 : Int} {v5 : Int} {v6 : Int} (hr : law07_ArrayWithin v1 v2 v3 v4 v5 v6 = some true) {Fz : Nat → Prop} {h : List Blk} {vs : List Value} (hfz : ∀ n, Fz n → n < h.length) (hargs : VLs Fz h noL [.agg [.v (.int .i64 v1), .v (.int .i64 v2), .list 5 (v3.map e_iiiii)], .agg [.v (.int .i64 v4), .v (.int .i64 v5), .v (.int .i64 v6)]] vs)
    {B lo : Nat} {D : Nat → Prop} {m : NMap} {w : World} {args' : List Value} (hrel : Rel B lo D m h w) (hlo : lo ≤ h.length) (hargs' : VRs D m vs args') : Calls Tryz.prog 6 ⟨args'⟩ w (fun e w'=>e = .returned (.bool true) ∧ Below w.heap.size w w'):=by
  unfold law07_ArrayWithin at hr
  have T:=an y53 <| @e_iiiii.eq_1
  refine law_tex follows awake_true Tryz.func6 rfl (tm0:=.agg [.v (.int .i64 v1),.v (.int .i64 v2),.list 5 (v3.map e_iiiii)] :: .agg [.v (.int .i64 v4),.v (.int .i64 v5),.v (.int .i64 v6)] :: .junk :: .junk :: .junk :: .junk :: .junk :: .junk :: .junk :: .junk :: .junk :: .junk :: .junk :: .junk :: .junk :: .junk :: .junk :: .junk :: .junk :: .junk :: .junk :: .junk :: .junk :: .junk :: .junk :: .junk :: .junk :: .junk :: .junk :: .junk :: .junk :: .junk :: .junk :: .junk :: .junk :: .junk :: .junk :: .junk :: .junk :: .junk :: .junk :: .junk :: .junk :: .junk :: .junk :: .junk :: .junk :: .junk :: .junk :: .junk :: .junk :: .junk :: .junk :: .junk :: .junk :: .junk :: .junk :: .junk :: .junk :: .junk :: .junk :: .junk :: .junk :: .junk :: .junk :: .junk :: .junk :: .junk :: .junk :: .junk :: .junk :: .junk :: .junk :: .junk :: .junk :: .junk :: .junk :: .junk :: .junk :: .junk :: .junk :: .junk :: .junk :: .junk :: .junk :: .junk :: .junk :: .junk :: .junk :: .junk :: .junk :: .junk :: .junk :: .junk :: .junk :: .junk :: .junk :: .junk :: .junk :: .junk :: .junk :: .junk :: .junk :: .junk :: .junk :: .junk :: .junk :: .junk :: .junk :: .junk :: .junk :: .junk :: .junk :: .junk :: .junk :: .junk :: .junk :: .junk :: .junk :: .junk :: .junk :: .junk :: .junk :: .junk :: .junk :: .junk :: .junk :: .junk :: .junk :: .junk :: .junk :: .junk :: .junk :: .junk :: .junk :: .junk :: .junk :: .junk :: .junk :: .junk :: .junk :: .junk :: .junk :: .junk :: .junk :: .junk :: .junk :: .junk :: .junk :: .junk :: .junk :: .junk :: .junk :: .junk :: .junk :: .junk :: .junk :: .junk :: .junk :: .junk :: .junk :: .junk :: .junk :: .junk :: .junk :: .junk :: .junk :: .junk :: .junk :: .junk :: .junk :: .junk :: .junk :: .junk :: .junk :: .junk :: .junk :: .junk :: .junk :: .junk :: .junk :: .junk :: .junk :: .junk :: .junk :: .junk :: .junk :: .junk :: []) (by simp [Tryz.f6]<;>exact rfl) ?_ hfz hargs hrel hlo hargs'
  refine wb_ T (g:=?_)
  apply TO.cal (wn T) rfl goFn11 Spec.awake rfl rfl rfl
  repeat exact sd T
  refine wa_ T (g:=?_)
  apply TO.pop1 (wn T) (pop_not rfl)
  repeat exact sd T
  refine wC T (g:=?_)
  rcases ifs hr with ⟨h1,hr⟩|⟨h1,hr⟩
  · have T:=an h1 T
    refine wa_ T (g:=?_)
    exact lv T hr
  · have T:=an h1 T
    refine wA T (g:=?_)
    obtain ⟨⟨v8,v9,v10⟩,h2,hr⟩:=bs hr
    try dsimp only at hr
    apply TD.cal (wn T) rfl goFn14 (Spec.ov (ref07_Copy_spec h2) (by decide)) rfl rfl rfl
    repeat exact sd T
    refine wA T (g:=?_)
    obtain ⟨⟨v11,v12,v13⟩,h3,hr⟩:=bs hr
    try dsimp only at hr
    apply TD.lok (wn T) rfl goFn28 (Spec.ov (array_PressureAt_spec h3) (by decide)) (vw T) rfl rfl (by simp [clTB,cl,e_iiiii,e_i,e_iiiiiiiii,e_z])
    repeat exact sd T
    refine wa_ T (g:=?_)
    rcases ifs hr with ⟨h4,hr⟩|⟨h4,hr⟩
    · have T:=an h4 T
      refine wa_ T (g:=?_)
      obtain ⟨v14,h5,hr⟩:=bs hr
      apply TO.cal (wn T) rfl goFn33 (Spec.ov (base_SameBits_spec h5) (by decide)) rfl rfl rfl
      repeat exact sd T
      refine wa_ T (g:=?_)
      exact lv T hr
    · have T:=an h4 T
      refine wA T (g:=?_)
      obtain ⟨⟨v15,v16,v17⟩,h6,hr⟩:=bs hr
      try dsimp only at hr
      apply TD.cal (wn T) rfl goFn14 (Spec.ov (ref07_Copy_spec h6) (by decide)) rfl rfl rfl
      repeat exact sd T
      refine wA T (g:=?_)
      obtain ⟨⟨v18,v19,v20,v21,v22⟩,h7,hr⟩:=bs hr
      try dsimp only at hr
      apply TD.lok (wn T) rfl goFn29 (Spec.ov (array_EndsAt_spec h7) (by decide)) (vw T) rfl rfl (by simp [clTB,cl,e_iiiii,e_i,e_iiiiiiiii,e_z])
      repeat exact sd T
      refine wA T (g:=?_)
      obtain ⟨⟨v23,v24,v25⟩,h8,hr⟩:=bs hr
      try dsimp only at hr
      apply TD.cal (wn T) rfl goFn14 (Spec.ov (ref07_Copy_spec h8) (by decide)) rfl rfl rfl
      repeat exact sd T
      refine wA T (g:=?_)
      obtain ⟨⟨v26,v27,v28⟩,h9,hr⟩:=bs hr
      try dsimp only at hr
      apply TD.lok (wn T) rfl goFn30 (Spec.ov (array_SizeAt_spec h9) (by decide)) (vw T) rfl rfl (by simp [clTB,cl,e_iiiii,e_i,e_iiiiiiiii,e_z])
      repeat exact sd T
      refine wa_ T (g:=?_)
      obtain ⟨⟨v29,v30,v31⟩,h10,hr⟩:=bs hr
      try dsimp only at hr
      apply TO.cal (wn T) rfl goFn39 (Spec.ov (law07_parts_spec h10) (by decide)) rfl rfl rfl
      repeat exact sd T
      refine wa_ T (g:=?_)
      rcases ifs hr with ⟨h11,hr⟩|⟨h11,hr⟩
      · have T:=an h11 T
        refine wa_ T (g:=?_)
        exact lv T hr
      · have T:=an h11 T
        refine wa_ T (g:=?_)
        rcases ifs hr with ⟨h12,hr⟩|⟨h12,hr⟩
        · have T:=an h12 T
          refine wa_ T (g:=?_)
          exact lv T hr
        · have T:=an h12 T
          refine wa_ T (g:=?_)
          apply TO.pop1 (wn T) (pop_not rfl)
          repeat exact sd T
          refine wa_ T (g:=?_)
          rcases ifs hr with ⟨h13,hr⟩|⟨h13,hr⟩
          · repeat (first|(with_reducible first|refine mv ?_|refine TO.nil ?_)|((with_reducible first|apply TO.mv|apply TO.ia|apply TO.fa|apply TO.ld);(repeat (focus (show _ = _;first|exact k1 rfl|exact k2 rfl|(simp only [zz,y53,e_iiiii,Nat.reduceAdd,Nat.reduceMul,Nat.reduceLeDiff,Nat.reduceEqDiff,tindexAddr,z5,Int.reduceToNat,Int.reduceLE,Int.reduceLT,Int.cast_ofNat_Int,tfieldAddr,tload,rowOf,partT,List.getElem?_map,h1,h4,h11,h12,h13]<;>exact rfl)|exact rfl)));(with_reducible apply TO.here))|((with_reducible apply TX.region);(focus (simp only [zl]<;>exact rfl));(focus rfl);(try dsimp only))|fail)
            obtain ⟨v32,h14,hr⟩:=bs hr
            have T:=an h13 T
            apply TO.cal (wn T) rfl goFn17 (Spec.ov (base_Within_spec h14) (by decide)) rfl rfl rfl
            repeat exact sd T
            refine wa_ T (g:=?_)
            apply TO.pop1 (wn T) (pop_not rfl)
            repeat exact sd T
            refine wa_ T (g:=?_)
            rcases ifs hr with ⟨h15,hr⟩|⟨h15,hr⟩
            · repeat (first|(with_reducible first|refine mv ?_|refine TO.nil ?_)|((with_reducible first|apply TO.mv|apply TO.ia|apply TO.fa|apply TO.ld);(repeat (focus (show _ = _;first|exact k1 rfl|exact k2 rfl|(simp only [zz,y53,e_iiiii,Nat.reduceAdd,Nat.reduceMul,Nat.reduceLeDiff,Nat.reduceEqDiff,tindexAddr,z5,Int.reduceToNat,Int.reduceLE,Int.reduceLT,Int.cast_ofNat_Int,tfieldAddr,tload,rowOf,partT,List.getElem?_map,h1,h4,h11,h12,h13,h15]<;>exact rfl)|exact rfl)));(with_reducible apply TO.here))|((with_reducible apply TX.region);(focus (simp only [zl]<;>exact rfl));(focus rfl);(try dsimp only))|fail)
              obtain ⟨v33,h16,hr⟩:=bs hr
              have T:=an h15 T
              apply TO.cal (wn T) rfl goFn17 (Spec.ov (base_Within_spec h16) (by decide)) rfl rfl rfl
              repeat exact sd T
              refine wa_ T (g:=?_)
              apply TO.pop1 (wn T) (pop_not rfl)
              repeat exact sd T
              refine wa_ T (g:=?_)
              rcases ifs hr with ⟨h17,hr⟩|⟨h17,hr⟩
              · have T:=an h17 T
                refine wA T (g:=?_)
                obtain ⟨v34,h18,hr⟩:=bs hr
                apply TO.cal (wn T) rfl goFn17 (Spec.ov (base_Within_spec h18) (by decide)) rfl rfl rfl
                repeat exact sd T
                refine wa_ T (g:=?_)
                apply TO.pop1 (wn T) (pop_not rfl)
                repeat exact sd T
                refine wa_ T (g:=?_)
                rcases ifs hr with ⟨h19,hr⟩|⟨h19,hr⟩
                · have T:=an h19 T
                  refine wA T (g:=?_)
                  rcases ifs hr with ⟨h20,hr⟩|⟨h20,hr⟩
                  · have T:=an h20 T
                    refine wa_ T (g:=?_)
                    exact lv T hr
                  · have T:=an h20 T
                    refine wA T (g:=?_)
                    rcases ifs hr with ⟨h21,hr⟩|⟨h21,hr⟩
                    · have T:=an h21 T
                      refine wa_ T (g:=?_)
                      exact lv T hr
                    · have T:=an h21 T
                      refine wA T (g:=?_)
                      rcases ifs hr with ⟨h22,hr⟩|⟨h22,hr⟩
                      · have T:=an h22 T
                        refine wa_ T (g:=?_)
                        exact lv T hr
                      · have T:=an h22 T
                        refine wA T (g:=?_)
                        obtain ⟨⟨v35,v36,v37⟩,h23,hr⟩:=bs hr
                        try dsimp only at hr
                        apply TD.cal (wn T) rfl goFn14 (Spec.ov (ref07_Copy_spec h23) (by decide)) rfl rfl rfl
                        repeat exact sd T
                        refine wA T (g:=?_)
                        obtain ⟨⟨v38,v39,v40⟩,h24,hr⟩:=bs hr
                        try dsimp only at hr
                        apply TD.cal (wn T) rfl goFn14 (Spec.ov (ref07_Copy_spec h24) (by decide)) rfl rfl rfl
                        repeat exact sd T
                        refine wa_ T (g:=?_)
                        obtain ⟨⟨v66,v67⟩,h31,hr⟩:=bs hr
                        try dsimp only at hr
                        refine TX.loopE (step:=law07_ArrayWithin_l1 v3) (x:=(v37,v40,0)) h31 (fun (v41,v42,v43)=>⟨.junk :: .junk :: .fptr true [.v (.int .i64 v1),.v (.int .i64 v2),.list 5 (v3.map e_iiiii)] 0 :: .fptr true [.v (.int .i64 v4),.v (.int .i64 v5),.v (.int .i64 v6)] 0 :: .junk :: .junk :: .junk :: .junk :: .junk :: .junk :: .junk :: .v (.int .i64 v29) :: .v (.int .i64 v30) :: .junk :: .junk :: .lptr 0 0 0 :: .lptr 2 0 0 :: .v (.int .i64 v43) :: .junk :: .junk :: .junk :: .junk :: .junk :: .junk :: .junk :: .junk :: .junk :: .junk :: .junk :: .junk :: .junk :: .junk :: .junk :: .junk :: .junk :: .junk :: .junk :: .junk :: .junk :: .junk :: .junk :: .junk :: .junk :: .junk :: .junk :: .junk :: .junk :: .junk :: .junk :: .junk :: .junk :: .junk :: .junk :: .junk :: .junk :: .junk :: .junk :: .junk :: .junk :: .junk :: .junk :: .junk :: .junk :: .junk :: .junk :: .junk :: .junk :: .junk :: .junk :: .junk :: .junk :: .junk :: .junk :: .junk :: .junk :: .junk :: .junk :: .junk :: .junk :: .junk :: .junk :: .junk :: .junk :: .junk :: .junk :: .junk :: .junk :: .junk :: .junk :: .junk :: .junk :: .junk :: .junk :: .junk :: .junk :: .junk :: .junk :: .junk :: .junk :: .junk :: .junk :: .junk :: .junk :: .junk :: .junk :: .junk :: .junk :: .junk :: .junk :: .junk :: .junk :: .junk :: .junk :: .junk :: .junk :: .junk :: .junk :: .junk :: .junk :: .junk :: .junk :: .junk :: .junk :: .junk :: .junk :: .junk :: .junk :: .junk :: .junk :: .junk :: .junk :: .junk :: .junk :: .junk :: .junk :: .junk :: .junk :: .junk :: .junk :: .junk :: .junk :: .junk :: .junk :: .junk :: .junk :: .junk :: .junk :: .junk :: .junk :: .junk :: .junk :: .junk :: .junk :: .junk :: .junk :: .junk :: .junk :: .junk :: .junk :: .junk :: .junk :: .junk :: .junk :: .junk :: .junk :: .junk :: .junk :: .junk :: .junk :: .junk :: .junk :: .junk :: .junk :: .junk :: .junk :: .junk :: .junk :: .junk :: .junk :: .junk :: .junk :: .junk :: .junk :: .junk :: .junk :: .junk :: .junk :: .junk :: [],[.var [.v (.int .i64 v35),.v (.int .i64 v36),.lsl 1 0 v41.length],.rows 5 (v41.map e_iiiii),.var [.v (.int .i64 v38),.v (.int .i64 v39),.lsl 3 0 v42.length],.rows 5 (v42.map e_iiiii)]⟩) (fun (v54,v55)=>(.exit 0,⟨.junk :: .junk :: .junk :: .fptr true [.v (.int .i64 v4),.v (.int .i64 v5),.v (.int .i64 v6)] 0 :: .junk :: .junk :: .junk :: .junk :: .junk :: .junk :: .junk :: .v (.int .i64 v29) :: .v (.int .i64 v30) :: .junk :: .junk :: .lptr 0 0 0 :: .lptr 2 0 0 :: .junk :: .junk :: .junk :: .junk :: .junk :: .junk :: .junk :: .junk :: .junk :: .junk :: .junk :: .junk :: .junk :: .junk :: .junk :: .junk :: .junk :: .junk :: .junk :: .junk :: .junk :: .junk :: .junk :: .junk :: .junk :: .junk :: .junk :: .junk :: .junk :: .junk :: .junk :: .junk :: .junk :: .junk :: .junk :: .junk :: .junk :: .junk :: .junk :: .junk :: .junk :: .junk :: .junk :: .junk :: .junk :: .junk :: .junk :: .junk :: .junk :: .junk :: .junk :: .junk :: .junk :: .junk :: .junk :: .junk :: .junk :: .junk :: .junk :: .junk :: .junk :: .junk :: .junk :: .junk :: .junk :: .junk :: .junk :: .junk :: .junk :: .junk :: .junk :: .junk :: .junk :: .junk :: .junk :: .junk :: .junk :: .junk :: .junk :: .junk :: .junk :: .junk :: .junk :: .junk :: .junk :: .junk :: .junk :: .junk :: .junk :: .junk :: .junk :: .junk :: .junk :: .junk :: .junk :: .junk :: .junk :: .junk :: .junk :: .junk :: .junk :: .junk :: .junk :: .junk :: .junk :: .junk :: .junk :: .junk :: .junk :: .junk :: .junk :: .junk :: .junk :: .junk :: .junk :: .junk :: .junk :: .junk :: .junk :: .junk :: .junk :: .junk :: .junk :: .junk :: .junk :: .junk :: .junk :: .junk :: .junk :: .junk :: .junk :: .junk :: .junk :: .junk :: .junk :: .junk :: .junk :: .junk :: .junk :: .junk :: .junk :: .junk :: .junk :: .junk :: .junk :: .junk :: .junk :: .junk :: .junk :: .junk :: .junk :: .junk :: .junk :: .junk :: .junk :: .junk :: .junk :: .junk :: .junk :: .junk :: .junk :: .junk :: .junk :: .junk :: .junk :: .junk :: .junk :: .junk :: .junk :: .junk :: .junk :: [],[.var [.v (.int .i64 v35),.v (.int .i64 v36),.lsl 1 0 v54.length],.rows 5 (v54.map e_iiiii),.var [.v (.int .i64 v38),.v (.int .i64 v39),.lsl 3 0 v55.length],.rows 5 (v55.map e_iiiii)]⟩)) ?_ ?_ ?_ ?_
                        · rintro ⟨v41,v42,v43⟩ v0 hr
                          dsimp only [law07_ArrayWithin_l1] at hr
                          try dsimp only
                          refine wC T (g:=?_)
                          rcases ifs hr with ⟨h28,hr⟩|⟨h28,hr⟩
                          · have T:=an h28 T
                            refine wA T (g:=?_)
                            obtain ⟨⟨v56,v57,v58,v59,v60⟩,h29,hr⟩:=bs hr
                            try dsimp only at hr
                            have h29m:=tidx_map (f:=e_iiiii) h29
                            have h29l:=getI_lt h29
                            try simp only [List.length_set] at h29l
                            have h29a:=getI_at h29
                            have T:=an h29m T
                            have T:=an h29l T
                            have T:=an h29a T
                            refine wA T (g:=?_)
                            apply TD.sr e_iiiii v41 (v56,v57,v58,v59,v60) (v56,v57,v58,v59,(IntKind.i64.wrap (v60 + 1))) h29a (wn T) rfl rfl rfl rfl rfl ok3 (by rw [cs3];rfl) rfl rfl rfl rfl rfl
                            repeat exact sd T
                            refine wA T (g:=?_)
                            obtain ⟨⟨v61,v62,v63,v64,v65⟩,h30,hr⟩:=bs hr
                            try dsimp only at hr
                            have h30m:=tidx_map (f:=e_iiiii) h30
                            have h30l:=getI_lt h30
                            try simp only [List.length_set] at h30l
                            have h30a:=getI_at h30
                            have T:=an h30m T
                            have T:=an h30l T
                            have T:=an h30a T
                            refine wa_ T (g:=?_)
                            apply TO.sr e_iiiii v42 (v61,v62,v63,v64,v65) (v61,v62,v63,0,v65) h30a (wn T) rfl rfl rfl rfl rfl ok3 (by rw [cs3];rfl) rfl rfl rfl rfl
                            repeat exact sd T
                            refine wa_ T (g:=?_)
                            cases hr
                            refine ⟨rfl,?_⟩
                            exact wk_ T [some 0,some 1,some 2,some 3] rfl (rv (.rows (rv (.rows .nil rfl rfl) rfl) rfl rfl) rfl)
                          · have T:=an h28 T
                            refine wa_ T (g:=?_)
                            cases hr
                            refine ⟨rfl,?_⟩
                            exact wk_ T [some 0,some 1,some 2,some 3] rfl (rv (.rows (rv (.rows .nil rfl rfl) rfl) rfl rfl) rfl)
                        · intro e h;cases h
                        · try dsimp only
                          refine wA T (g:=?_)
                          obtain ⟨⟨v68,v69,v70⟩,h32,hr⟩:=bs hr
                          try dsimp only at hr
                          apply TO.lok (wn T) rfl goFn28 (Spec.ov (array_PressureAt_spec h32) (by decide)) (vw T) rfl rfl (by simp [clTB,cl,e_iiiii,e_i,e_iiiiiiiii,e_z])
                          repeat exact sd T
                          refine wA T (g:=?_)
                          obtain ⟨⟨v71,v72,v73⟩,h33,hr⟩:=bs hr
                          try dsimp only at hr
                          apply TO.lok (wn T) rfl goFn28 (Spec.ov (array_PressureAt_spec h33) (by decide)) (vw T) rfl rfl (by simp [clTB,cl,e_iiiii,e_i,e_iiiiiiiii,e_z])
                          repeat exact sd T
                          refine wa_ T (g:=?_)
                          rcases ifs hr with ⟨h34,hr⟩|⟨h34,hr⟩
                          · have T:=an h34 T
                            refine wa_ T (g:=?_)
                            exact lv T hr
                          · have T:=an h34 T
                            refine wa_ T (g:=?_)
                            obtain ⟨v74,h35,hr⟩:=bs hr
                            apply TO.cal (wn T) rfl goFn33 (Spec.ov (base_SameBits_spec h35) (by decide)) rfl rfl rfl
                            repeat exact sd T
                            refine wa_ T (g:=?_)
                            apply TO.pop1 (wn T) (pop_not rfl)
                            repeat exact sd T
                            refine wa_ T (g:=?_)
                            rcases ifs hr with ⟨h36,hr⟩|⟨h36,hr⟩
                            · have T:=an h36 T
                              refine wa_ T (g:=?_)
                              rcases ifs hr with ⟨h37,hr⟩|⟨h37,hr⟩
                              · have T:=an h37 T
                                refine wa_ T (g:=?_)
                                exact lv T hr
                              · have T:=an h37 T
                                refine wa_ T (g:=?_)
                                rcases ifs hr with ⟨h38,hr⟩|⟨h38,hr⟩
                                · have T:=an h38 T
                                  refine wa_ T (g:=?_)
                                  apply TO.pop1 (wn T) (pop_neg rfl)
                                  repeat exact sd T
                                  refine wa_ T (g:=?_)
                                  obtain ⟨⟨v75,v76⟩,h39,hr⟩:=bs hr
                                  try dsimp only at hr
                                  apply TO.cal (wn T) rfl goFn35 (Spec.ov (base_Num_spec h39) (by decide)) rfl rfl rfl
                                  repeat exact sd T
                                  refine wa_ T (g:=?_)
                                  obtain ⟨v77,h40,hr⟩:=bs hr
                                  apply TO.cal (wn T) rfl goFn33 (Spec.ov (base_SameBits_spec h40) (by decide)) rfl rfl rfl
                                  repeat exact sd T
                                  refine wa_ T (g:=?_)
                                  exact lv T hr
                                · have T:=an h38 T
                                  refine wa_ T (g:=?_)
                                  exact lv T hr
                            · have T:=an h36 T
                              refine wa_ T (g:=?_)
                              exact lv T hr
                        · try dsimp only
                          exact wk_ T [some 7,some 5,some 8,some 6] rfl (rv (.rows (rv (.rows .nil rfl rfl) rfl) rfl rfl) rfl)
                · have T:=an h19 T
                  refine wa_ T (g:=?_)
                  exact lv T hr
              · have T:=an h17 T
                refine wa_ T (g:=?_)
                exact lv T hr
            · have T:=an h15 T
              refine wa_ T (g:=?_)
              exact lv T hr
          · have T:=an h13 T
            refine wa_ T (g:=?_)
            exact lv T hr

end Go.Rex
