/- Proofs that the program's functions do what these plain functions say. -/
import Derived.Test.YtllnpjkkpebplaaGB
import Derived.Test.YtllnpjkkpebplaaS
import Derived.Test.YtllnpjkkpebplaaG2
import Derived.Test.YtllnpjkkpebplaaRexG9
import Derived.Test.YtllnpjkkpebplaaM
import Derived.Test.YtllnpjkkpebplaaG1
set_option linter.unusedSimpArgs false
set_option linter.unusedVariables false
set_option linter.defProp false
namespace Go.Rex
open Go.Proofs
open Go Go.Rex Go.RowKit
set_option maxRecDepth 100000
set_option maxHeartbeats 1000000
def y28 := an @ag135 <| an @by135 <| an @cs135 <| an @ok135 <| an @so105 <| an @st135 <| an @zc135 <| an @wi64_256a256 <| an @wi64_256a512 <| an @wi64_2m256 <| @wi64_256s256
theorem loop_newCircle_spec {v1 : (List (Int × Int))} (hr : loop_newCircle = some (v1)) : Spec (lim Try.prog) 72 [] ⟨[.lsl 0 0 v1.length], [.rows 2 (v1.map e_ii)]⟩ := by
  unfold loop_newCircle at hr
  apply Spec.fn Try.func72 rfl
  focus (simp [Try.f72] <;> exact rfl)
  focus
    repeat (first | (with_reducible first | refine mv ?_ | refine m12 rfl ?_ | refine TO.nil ?_) | ((with_reducible first | apply TO.asg); (repeat (focus (show _ = _; first | exact k1 rfl | exact k2 rfl | (simp only [zz, y28, e_ii, Nat.reduceAdd, Nat.reduceMul, Nat.reduceLeDiff, Nat.reduceEqDiff] <;> exact rfl) | exact rfl))); (with_reducible refine TO.here ?_)) | ((with_reducible apply TX.region); (focus (simp only [zl] <;> exact rfl)); (focus rfl); (try dsimp only)) | fail)
    obtain ⟨v2, h1, hr⟩ := Option.bind_eq_some_iff.1 hr
    try dsimp only at hr
    apply TO.mk e_ii h1 (by first | rfl | (simp only [twant, z1, zp, zs]; done)) rfl rfl so105 zc135 by135 rfl rfl rfl
    (repeat (focus (show _ = _; first | exact k1 rfl | exact k2 rfl | (simp only [zz, y28, e_ii, Nat.reduceAdd, Nat.reduceMul, Nat.reduceLeDiff, Nat.reduceEqDiff] <;> exact rfl) | exact rfl)))
    with_reducible apply TO.here
    repeat (first | (with_reducible first | refine mv ?_ | refine m12 rfl ?_ | refine TO.nil ?_) | ((with_reducible first | apply TO.asg | apply TO.mv | apply TO.bld); (repeat (focus (show _ = _; first | exact k1 rfl | exact k2 rfl | (simp only [zz, y28, e_ii, Nat.reduceAdd, Nat.reduceMul, Nat.reduceLeDiff, Nat.reduceEqDiff, tbuild, tfill] <;> exact rfl) | exact rfl))); (with_reducible refine TO.here ?_)) | ((with_reducible apply TX.region); (focus (simp only [zl] <;> exact rfl)); (focus rfl); (try dsimp only)) | fail)
    obtain ⟨⟨v3, v4⟩, h2, hr⟩ := Option.bind_eq_some_iff.1 hr
    try dsimp only at hr
    have h2m := tidx_map (f := e_ii) h2
    have h2l := getI_lt h2
    try simp only [List.length_set] at h2l
    have h2a := getI_at h2
    repeat (first | (with_reducible first | refine mv ?_ | refine m12 rfl ?_ | refine TO.nil ?_) | ((with_reducible first | apply TO.ia); (repeat (focus (show _ = _; first | exact k1 rfl | exact k2 rfl | (simp only [zz, y28, e_ii, Nat.reduceAdd, Nat.reduceMul, Nat.reduceLeDiff, Nat.reduceEqDiff, tindexAddr, Nat.zero_add, h2m, h2l, h2a] <;> exact rfl) | exact rfl))); (with_reducible refine TO.here ?_)) | ((with_reducible apply TX.region); (focus (simp only [zl] <;> exact rfl)); (focus rfl); (try dsimp only)) | fail)
    apply TO.sr e_ii v2 (v3, v4) (67108864, 0) h2a (by first | rfl | (simp only [twant, z1, zp, zs, h2m, h2l, h2a]; done)) rfl rfl rfl rfl rfl ok135 (by rw [cs135]; rfl) rfl rfl rfl rfl
    (repeat (focus (show _ = _; first | exact k1 rfl | exact k2 rfl | (simp only [zz, y28, e_ii, Nat.reduceAdd, Nat.reduceMul, Nat.reduceLeDiff, Nat.reduceEqDiff, shift, kill, killB, frz, frzB, view, tml, tmlc, List.length_set, h2m, h2l, h2a] <;> exact rfl) | exact rfl)))
    with_reducible apply TO.here
    repeat (first | (with_reducible first | refine mv ?_ | refine m12 rfl ?_ | refine TO.nil ?_) | ((with_reducible first | apply TO.mv | apply TO.bld); (repeat (focus (show _ = _; first | exact k1 rfl | exact k2 rfl | (simp only [zz, y28, e_ii, Nat.reduceAdd, Nat.reduceMul, Nat.reduceLeDiff, Nat.reduceEqDiff, tbuild, tfill, h2m, h2l, h2a] <;> exact rfl) | exact rfl))); (with_reducible refine TO.here ?_)) | ((with_reducible apply TX.region); (focus (simp only [zl] <;> exact rfl)); (focus rfl); (try dsimp only)) | fail)
    obtain ⟨⟨v5, v6⟩, h3, hr⟩ := Option.bind_eq_some_iff.1 hr
    try dsimp only at hr
    have h3m := tidx_map (f := e_ii) h3
    have h3l := getI_lt h3
    try simp only [List.length_set] at h3l
    have h3a := getI_at h3
    repeat (first | (with_reducible first | refine mv ?_ | refine m12 rfl ?_ | refine TO.nil ?_) | ((with_reducible first | apply TO.ia); (repeat (focus (show _ = _; first | exact k1 rfl | exact k2 rfl | (simp only [zz, y28, e_ii, Nat.reduceAdd, Nat.reduceMul, Nat.reduceLeDiff, Nat.reduceEqDiff, tindexAddr, Nat.zero_add, h2m, h2l, h2a, h3m, h3l, h3a] <;> exact rfl) | exact rfl))); (with_reducible refine TO.here ?_)) | ((with_reducible apply TX.region); (focus (simp only [zl] <;> exact rfl)); (focus rfl); (try dsimp only)) | fail)
    apply TO.sr e_ii (v2.set (0 : Int).toNat (67108864, 0)) (v5, v6) (47453132, 47453132) h3a (by first | rfl | (simp only [twant, z1, zp, zs, h2m, h2l, h2a, h3m, h3l, h3a]; done)) rfl rfl rfl rfl rfl ok135 (by rw [cs135]; rfl) rfl rfl rfl rfl
    (repeat (focus (show _ = _; first | exact k1 rfl | exact k2 rfl | (simp only [zz, y28, e_ii, Nat.reduceAdd, Nat.reduceMul, Nat.reduceLeDiff, Nat.reduceEqDiff, shift, kill, killB, frz, frzB, view, tml, tmlc, List.length_set, h2m, h2l, h2a, h3m, h3l, h3a] <;> exact rfl) | exact rfl)))
    with_reducible apply TO.here
    repeat (first | (with_reducible first | refine mv ?_ | refine m12 rfl ?_ | refine TO.nil ?_) | ((with_reducible first | apply TO.mv); (repeat (focus (show _ = _; first | exact k1 rfl | exact k2 rfl | (simp only [zz, y28, e_ii, Nat.reduceAdd, Nat.reduceMul, Nat.reduceLeDiff, Nat.reduceEqDiff, h2m, h2l, h2a, h3m, h3l, h3a] <;> exact rfl) | exact rfl))); (with_reducible refine TO.here ?_)) | ((with_reducible apply TX.region); (focus (simp only [zl] <;> exact rfl)); (focus rfl); (try dsimp only)) | fail)
    obtain ⟨⟨v7, v8⟩, h4, hr⟩ := Option.bind_eq_some_iff.1 hr
    try dsimp only at hr
    have h4m := tidx_map (f := e_ii) h4
    have h4l := getI_lt h4
    try simp only [List.length_set] at h4l
    have h4a := getI_at h4
    repeat (first | (with_reducible first | refine mv ?_ | refine m12 rfl ?_ | refine TO.nil ?_) | ((with_reducible first | apply TO.ia | apply TO.ld); (repeat (focus (show _ = _; first | exact k1 rfl | exact k2 rfl | (simp only [zz, y28, e_ii, Nat.reduceAdd, Nat.reduceMul, Nat.reduceLeDiff, Nat.reduceEqDiff, tindexAddr, Nat.zero_add, tload, rowOf, partT, List.getElem?_map, h2m, h2l, h2a, h3m, h3l, h3a, h4m, h4l, h4a] <;> exact rfl) | exact rfl))); (with_reducible refine TO.here ?_)) | ((with_reducible apply TX.region); (focus (simp only [zl] <;> exact rfl)); (focus rfl); (try dsimp only)) | fail)
    obtain ⟨⟨v9, v10⟩, h5, hr⟩ := Option.bind_eq_some_iff.1 hr
    try dsimp only at hr
    apply TO.cal (by first | rfl | (simp only [twant, z1, zp, zs, h2m, h2l, h2a, h3m, h3l, h3a, h4m, h4l, h4a]; done)) rfl goFn104 (loop_direction_turned_spec h5) rfl rfl rfl
    (repeat (focus (show _ = _; first | exact k1 rfl | exact k2 rfl | (simp only [zz, y28, e_ii, Nat.reduceAdd, Nat.reduceMul, Nat.reduceLeDiff, Nat.reduceEqDiff, shift, kill, killB, frz, frzB, view, tml, tmlc, List.length_set, h2m, h2l, h2a, h3m, h3l, h3a, h4m, h4l, h4a] <;> exact rfl) | exact rfl)))
    with_reducible apply TO.here
    repeat (first | (with_reducible first | refine mv ?_ | refine m12 rfl ?_ | refine TO.nil ?_) | ((with_reducible apply TX.region); (focus (simp only [zl] <;> exact rfl)); (focus rfl); (try dsimp only)) | fail)
    obtain ⟨⟨v11, v12⟩, h6, hr⟩ := Option.bind_eq_some_iff.1 hr
    try dsimp only at hr
    have h6m := tidx_map (f := e_ii) h6
    have h6l := getI_lt h6
    try simp only [List.length_set] at h6l
    have h6a := getI_at h6
    repeat (first | (with_reducible first | refine mv ?_ | refine m12 rfl ?_ | refine TO.nil ?_) | ((with_reducible first | apply TO.ia); (repeat (focus (show _ = _; first | exact k1 rfl | exact k2 rfl | (simp only [zz, y28, e_ii, Nat.reduceAdd, Nat.reduceMul, Nat.reduceLeDiff, Nat.reduceEqDiff, tindexAddr, Nat.zero_add, h2m, h2l, h2a, h3m, h3l, h3a, h4m, h4l, h4a, h6m, h6l, h6a] <;> exact rfl) | exact rfl))); (with_reducible refine TO.here ?_)) | ((with_reducible apply TX.region); (focus (simp only [zl] <;> exact rfl)); (focus rfl); (try dsimp only)) | fail)
    apply TO.sr e_ii ((v2.set (0 : Int).toNat (67108864, 0)).set (512 : Int).toNat (47453132, 47453132)) (v11, v12) (v9, v10) h6a (by first | rfl | (simp only [twant, z1, zp, zs, h2m, h2l, h2a, h3m, h3l, h3a, h4m, h4l, h4a, h6m, h6l, h6a]; done)) rfl rfl rfl rfl rfl ok135 (by rw [cs135]; rfl) rfl rfl rfl rfl
    (repeat (focus (show _ = _; first | exact k1 rfl | exact k2 rfl | (simp only [zz, y28, e_ii, Nat.reduceAdd, Nat.reduceMul, Nat.reduceLeDiff, Nat.reduceEqDiff, shift, kill, killB, frz, frzB, view, tml, tmlc, List.length_set, h2m, h2l, h2a, h3m, h3l, h3a, h4m, h4l, h4a, h6m, h6l, h6a] <;> exact rfl) | exact rfl)))
    with_reducible apply TO.here
    repeat (first | (with_reducible first | refine mv ?_ | refine m12 rfl ?_ | refine TO.nil ?_) | ((with_reducible first | apply TO.asg); (repeat (focus (show _ = _; first | exact k1 rfl | exact k2 rfl | (simp only [zz, y28, e_ii, Nat.reduceAdd, Nat.reduceMul, Nat.reduceLeDiff, Nat.reduceEqDiff, h2m, h2l, h2a, h3m, h3l, h3a, h4m, h4l, h4a, h6m, h6l, h6a] <;> exact rfl) | exact rfl))); (with_reducible refine TO.here ?_)) | ((with_reducible apply TX.region); (focus (simp only [zl] <;> exact rfl)); (focus rfl); (try dsimp only)) | fail)
    obtain ⟨v56, h31, hr⟩ := Option.bind_eq_some_iff.1 hr
    try dsimp only at hr
    refine TX.loopE (step := loop_newCircle_l1) (x := ((((v2.set (0 : Int).toNat (67108864, 0)).set (512 : Int).toNat (47453132, 47453132)).set (1024 : Int).toNat (v9, v10)), 256)) h31 (fun (v13, v14) => ⟨.junk :: .lsl 0 0 v13.length :: .v (.int .i64 v14) :: .junk :: .junk :: .junk :: .junk :: .junk :: .junk :: .junk :: .junk :: .junk :: .junk :: .junk :: .junk :: .junk :: .junk :: .junk :: .junk :: .junk :: .junk :: .junk :: .junk :: .junk :: .junk :: .junk :: .junk :: .junk :: .junk :: .junk :: .junk :: .junk :: .junk :: .junk :: .junk :: .junk :: .junk :: .junk :: .junk :: .junk :: .junk :: .junk :: .junk :: .junk :: .junk :: [], [.rows 2 (v13.map e_ii)]⟩) (fun v35 => (.exit 0, ⟨.junk :: .lsl 0 0 v35.length :: .junk :: .junk :: .junk :: .junk :: .junk :: .junk :: .junk :: .junk :: .junk :: .junk :: .junk :: .junk :: .junk :: .junk :: .junk :: .junk :: .junk :: .junk :: .junk :: .junk :: .junk :: .junk :: .junk :: .junk :: .junk :: .junk :: .junk :: .junk :: .junk :: .junk :: .junk :: .junk :: .junk :: .junk :: .junk :: .junk :: .junk :: .junk :: .junk :: .junk :: .junk :: .junk :: .junk :: [], [.rows 2 (v35.map e_ii)]⟩)) ?_ ?_ ?_ ?_
    · rintro ⟨v13, v14⟩ v0 hr
      dsimp only [loop_newCircle_l1] at hr
      try dsimp only
      repeat (first | (with_reducible first | refine mv ?_ | refine m12 rfl ?_ | refine TO.nil ?_) | ((with_reducible first | apply TO.mv | apply TO.bin); (repeat (focus (show _ = _; first | exact k1 rfl | exact k2 rfl | (simp only [zz, y28, e_ii, Nat.reduceAdd, Nat.reduceMul, Nat.reduceLeDiff, Nat.reduceEqDiff, h2m, h2l, h2a, h3m, h3l, h3a, h4m, h4l, h4a, h6m, h6l, h6a] <;> exact rfl) | exact rfl))); (with_reducible refine TO.here ?_)) | ((with_reducible apply TX.region); (focus (simp only [zl] <;> exact rfl)); (focus rfl); (try dsimp only)) | ((with_reducible apply TX.cond_true); (focus rfl); (focus (first | rfl | (simp only [z1, zn, h2m, h2l, h2a, h3m, h3l, h3a, h4m, h4l, h4a, h6m, h6l, h6a]; done)))) | ((with_reducible apply TX.cond_false); (focus rfl); (focus (first | rfl | (simp only [z1, zn, h2m, h2l, h2a, h3m, h3l, h3a, h4m, h4l, h4a, h6m, h6l, h6a]; done)))) | fail)
      rcases Bool.eq_false_or_eq_true ((decide (v14 > 0))) with h19 | h19
      · rw [if_pos h19] at hr
        repeat (first | (with_reducible first | refine mv ?_ | refine m12 rfl ?_ | refine TO.nil ?_) | ((with_reducible first | apply TO.mv | apply TO.asg); (repeat (focus (show _ = _; first | exact k1 rfl | exact k2 rfl | (simp only [zz, y28, e_ii, Nat.reduceAdd, Nat.reduceMul, Nat.reduceLeDiff, Nat.reduceEqDiff, h2m, h2l, h2a, h3m, h3l, h3a, h4m, h4l, h4a, h6m, h6l, h6a, h19] <;> exact rfl) | exact rfl))); (with_reducible refine TO.here ?_)) | ((with_reducible apply TX.region); (focus (simp only [zl] <;> exact rfl)); (focus rfl); (try dsimp only)) | ((with_reducible apply TX.cond_true); (focus rfl); (focus (first | rfl | (simp only [z1, zn, h2m, h2l, h2a, h3m, h3l, h3a, h4m, h4l, h4a, h6m, h6l, h6a, h19]; done)))) | ((with_reducible apply TX.cond_false); (focus rfl); (focus (first | rfl | (simp only [z1, zn, h2m, h2l, h2a, h3m, h3l, h3a, h4m, h4l, h4a, h6m, h6l, h6a, h19]; done)))) | fail)
        obtain ⟨v55, h30, hr⟩ := Option.bind_eq_some_iff.1 hr
        try dsimp only at hr
        refine TX.loopE (step := loop_newCircle_l2 v14) (x := (v13, v14)) h30 (fun (v36, v37) => ⟨.junk :: .lsl 0 0 v36.length :: .v (.int .i64 v14) :: .v (.int .i64 v37) :: .junk :: .junk :: .junk :: .junk :: .junk :: .junk :: .junk :: .junk :: .junk :: .junk :: .junk :: .junk :: .junk :: .junk :: .junk :: .junk :: .junk :: .junk :: .junk :: .junk :: .junk :: .junk :: .junk :: .junk :: .junk :: .junk :: .junk :: .junk :: .junk :: .junk :: .junk :: .junk :: .junk :: .junk :: .junk :: .junk :: .junk :: .junk :: .junk :: .junk :: .junk :: [], [.rows 2 (v36.map e_ii)]⟩) (fun v46 => (.exit 2, ⟨.junk :: .lsl 0 0 v46.length :: .v (.int .i64 v14) :: .junk :: .junk :: .junk :: .junk :: .junk :: .junk :: .junk :: .junk :: .junk :: .junk :: .junk :: .junk :: .junk :: .junk :: .junk :: .junk :: .junk :: .junk :: .junk :: .junk :: .junk :: .junk :: .junk :: .junk :: .junk :: .junk :: .junk :: .junk :: .junk :: .junk :: .junk :: .junk :: .junk :: .junk :: .junk :: .junk :: .junk :: .junk :: .junk :: .junk :: .junk :: .junk :: [], [.rows 2 (v46.map e_ii)]⟩)) ?_ ?_ ?_ ?_
        · rintro ⟨v36, v37⟩ v0 hr
          dsimp only [loop_newCircle_l2] at hr
          try dsimp only
          repeat (first | (with_reducible first | refine mv ?_ | refine m12 rfl ?_ | refine TO.nil ?_) | ((with_reducible first | apply TO.mv | apply TO.bin); (repeat (focus (show _ = _; first | exact k1 rfl | exact k2 rfl | (simp only [zz, y28, e_ii, Nat.reduceAdd, Nat.reduceMul, Nat.reduceLeDiff, Nat.reduceEqDiff, h2m, h2l, h2a, h3m, h3l, h3a, h4m, h4l, h4a, h6m, h6l, h6a, h19] <;> exact rfl) | exact rfl))); (with_reducible refine TO.here ?_)) | ((with_reducible apply TX.region); (focus (simp only [zl] <;> exact rfl)); (focus rfl); (try dsimp only)) | ((with_reducible apply TX.cond_true); (focus rfl); (focus (first | rfl | (simp only [z1, zn, h2m, h2l, h2a, h3m, h3l, h3a, h4m, h4l, h4a, h6m, h6l, h6a, h19]; done)))) | ((with_reducible apply TX.cond_false); (focus rfl); (focus (first | rfl | (simp only [z1, zn, h2m, h2l, h2a, h3m, h3l, h3a, h4m, h4l, h4a, h6m, h6l, h6a, h19]; done)))) | fail)
          rcases Bool.eq_false_or_eq_true ((decide (v37 < 1024))) with h25 | h25
          · rw [if_pos h25] at hr
            repeat (first | (with_reducible first | refine mv ?_ | refine m12 rfl ?_ | refine TD.nil ?_) | ((with_reducible first | apply TD.mv | apply TD.bin); (repeat (focus (show _ = _; first | exact k1 rfl | exact k2 rfl | (simp only [zz, y28, e_ii, Nat.reduceAdd, Nat.reduceMul, Nat.reduceLeDiff, Nat.reduceEqDiff, h2m, h2l, h2a, h3m, h3l, h3a, h4m, h4l, h4a, h6m, h6l, h6a, h19, h25] <;> exact rfl) | exact rfl))); (with_reducible refine TD.here ?_)) | ((with_reducible apply TX.drawn); (focus decide +kernel); (focus (simp only [zl] <;> exact rfl)); (focus exact rfl); (try dsimp only)) | ((with_reducible apply TX.cond_true); (focus rfl); (focus (first | rfl | (simp only [z1, zn, h2m, h2l, h2a, h3m, h3l, h3a, h4m, h4l, h4a, h6m, h6l, h6a, h19, h25]; done)))) | ((with_reducible apply TX.cond_false); (focus rfl); (focus (first | rfl | (simp only [z1, zn, h2m, h2l, h2a, h3m, h3l, h3a, h4m, h4l, h4a, h6m, h6l, h6a, h19, h25]; done)))) | fail)
            obtain ⟨⟨v47, v48⟩, h26, hr⟩ := Option.bind_eq_some_iff.1 hr
            try dsimp only at hr
            have h26m := tidx_map (f := e_ii) h26
            have h26l := getI_lt h26
            try simp only [List.length_set] at h26l
            have h26a := getI_at h26
            repeat (first | (with_reducible first | refine mv ?_ | refine m12 rfl ?_ | refine TD.nil ?_) | ((with_reducible first | apply TD.ia | apply TD.ld | apply TD.ldw | apply TD.mv | apply TD.bin); (repeat (focus (show _ = _; first | exact k1 rfl | exact k2 rfl | (simp only [zz, y28, e_ii, Nat.reduceAdd, Nat.reduceMul, Nat.reduceLeDiff, Nat.reduceEqDiff, tindexAddr, Nat.zero_add, tload, rowOf, partT, List.getElem?_map, h2m, h2l, h2a, h3m, h3l, h3a, h4m, h4l, h4a, h6m, h6l, h6a, h19, h25, h26m, h26l, h26a] <;> exact rfl) | exact rfl))); (with_reducible refine TD.here ?_)) | ((with_reducible apply TX.drawn); (focus decide +kernel); (focus (simp only [zl] <;> exact rfl)); (focus exact rfl); (try dsimp only)) | fail)
            obtain ⟨⟨v49, v50⟩, h27, hr⟩ := Option.bind_eq_some_iff.1 hr
            try dsimp only at hr
            have h27m := tidx_map (f := e_ii) h27
            have h27l := getI_lt h27
            try simp only [List.length_set] at h27l
            have h27a := getI_at h27
            repeat (first | (with_reducible first | refine mv ?_ | refine m12 rfl ?_ | refine TD.nil ?_) | ((with_reducible first | apply TD.ia | apply TD.ld | apply TD.ldw); (repeat (focus (show _ = _; first | exact k1 rfl | exact k2 rfl | (simp only [zz, y28, e_ii, Nat.reduceAdd, Nat.reduceMul, Nat.reduceLeDiff, Nat.reduceEqDiff, tindexAddr, Nat.zero_add, tload, rowOf, partT, List.getElem?_map, h2m, h2l, h2a, h3m, h3l, h3a, h4m, h4l, h4a, h6m, h6l, h6a, h19, h25, h26m, h26l, h26a, h27m, h27l, h27a] <;> exact rfl) | exact rfl))); (with_reducible refine TD.here ?_)) | ((with_reducible apply TX.drawn); (focus decide +kernel); (focus (simp only [zl] <;> exact rfl)); (focus exact rfl); (try dsimp only)) | fail)
            obtain ⟨⟨v51, v52⟩, h28, hr⟩ := Option.bind_eq_some_iff.1 hr
            try dsimp only at hr
            first | apply TD.cal (by first | rfl | (simp only [twant, z1, zp, zs, h2m, h2l, h2a, h3m, h3l, h3a, h4m, h4l, h4a, h6m, h6l, h6a, h19, h25, h26m, h26l, h26a, h27m, h27l, h27a]; done)) rfl goFn105 (loop_middle_spec h28) rfl rfl rfl | apply TD.calw (by first | rfl | (simp only [twant, z1, zp, zs, h2m, h2l, h2a, h3m, h3l, h3a, h4m, h4l, h4a, h6m, h6l, h6a, h19, h25, h26m, h26l, h26a, h27m, h27l, h27a]; done)) rfl goFn105 (loop_middle_spec h28) rfl rfl rfl rfl
            (repeat (focus (show _ = _; first | exact k1 rfl | exact k2 rfl | (simp only [zz, y28, e_ii, Nat.reduceAdd, Nat.reduceMul, Nat.reduceLeDiff, Nat.reduceEqDiff, shift, kill, killB, frz, frzB, view, tml, tmlc, List.length_set, h2m, h2l, h2a, h3m, h3l, h3a, h4m, h4l, h4a, h6m, h6l, h6a, h19, h25, h26m, h26l, h26a, h27m, h27l, h27a] <;> exact rfl) | exact rfl)))
            with_reducible apply TD.here
            repeat (first | (with_reducible first | refine mv ?_ | refine m12 rfl ?_ | refine TD.nil ?_) | ((with_reducible apply TX.drawn); (focus decide +kernel); (focus (simp only [zl] <;> exact rfl)); (focus exact rfl); (try dsimp only)) | fail)
            obtain ⟨⟨v53, v54⟩, h29, hr⟩ := Option.bind_eq_some_iff.1 hr
            try dsimp only at hr
            have h29m := tidx_map (f := e_ii) h29
            have h29l := getI_lt h29
            try simp only [List.length_set] at h29l
            have h29a := getI_at h29
            repeat (first | (with_reducible first | refine mv ?_ | refine m12 rfl ?_ | refine TD.nil ?_) | ((with_reducible first | apply TD.ia); (repeat (focus (show _ = _; first | exact k1 rfl | exact k2 rfl | (simp only [zz, y28, e_ii, Nat.reduceAdd, Nat.reduceMul, Nat.reduceLeDiff, Nat.reduceEqDiff, tindexAddr, Nat.zero_add, h2m, h2l, h2a, h3m, h3l, h3a, h4m, h4l, h4a, h6m, h6l, h6a, h19, h25, h26m, h26l, h26a, h27m, h27l, h27a, h29m, h29l, h29a] <;> exact rfl) | exact rfl))); (with_reducible refine TD.here ?_)) | ((with_reducible apply TX.drawn); (focus decide +kernel); (focus (simp only [zl] <;> exact rfl)); (focus exact rfl); (try dsimp only)) | fail)
            apply TD.sr e_ii v36 (v53, v54) (v51, v52) h29a (by first | rfl | (simp only [twant, z1, zp, zs, h2m, h2l, h2a, h3m, h3l, h3a, h4m, h4l, h4a, h6m, h6l, h6a, h19, h25, h26m, h26l, h26a, h27m, h27l, h27a, h29m, h29l, h29a]; done)) rfl rfl rfl rfl rfl ok135 (by rw [cs135]; rfl) rfl rfl rfl rfl rfl
            (repeat (focus (show _ = _; first | exact k1 rfl | exact k2 rfl | (simp only [zz, y28, e_ii, Nat.reduceAdd, Nat.reduceMul, Nat.reduceLeDiff, Nat.reduceEqDiff, shift, kill, killB, frz, frzB, view, tml, tmlc, List.length_set, h2m, h2l, h2a, h3m, h3l, h3a, h4m, h4l, h4a, h6m, h6l, h6a, h19, h25, h26m, h26l, h26a, h27m, h27l, h27a, h29m, h29l, h29a] <;> exact rfl) | exact rfl)))
            with_reducible apply TD.here
            repeat (first | (with_reducible first | refine mv ?_ | refine m12 rfl ?_ | refine TO.nil ?_) | ((with_reducible first | apply TO.mv | apply TO.bin | apply TO.asg); (repeat (focus (show _ = _; first | exact k1 rfl | exact k2 rfl | (simp only [zz, y28, e_ii, Nat.reduceAdd, Nat.reduceMul, Nat.reduceLeDiff, Nat.reduceEqDiff, h2m, h2l, h2a, h3m, h3l, h3a, h4m, h4l, h4a, h6m, h6l, h6a, h19, h25, h26m, h26l, h26a, h27m, h27l, h27a, h29m, h29l, h29a] <;> exact rfl) | exact rfl))); (with_reducible refine TO.here ?_)) | ((with_reducible apply TX.region); (focus (simp only [zl] <;> exact rfl)); (focus rfl); (try dsimp only)) | with_reducible refine TD.nil ?_ | ((with_reducible apply TX.drawn); (focus decide +kernel); (focus (simp only [zl] <;> exact rfl)); (focus exact rfl); (try dsimp only)) | fail)
            cases hr
            refine ⟨rfl, ?_⟩
            exact Wk.ren [some 0] rfl (.rows .nil rfl rfl) (by (repeat (first | exact RNs.nil | refine RNs.cons .junk ?_ | refine RNs.cons (.keep rfl rfl) ?_ | refine RNs.cons (.lsl rfl rfl) ?_ | refine RNs.cons (.lsl rfl (by simp only [List.length_set])) ?_ | refine RNs.cons (.lptr rfl) ?_ | refine RNs.cons (.nil rfl) ?_ | refine RNs.cons .nl ?_ | refine RNs.cons (.keep (by simp only [h19, h25]) rfl) ?_ | refine RNs.cons (.tuple' ?_) ?_ | refine RNs.cons (.agg' ?_) ?_)))
          · rw [if_neg (by rw [h25]; exact Bool.false_ne_true)] at hr
            repeat (first | (with_reducible first | refine mv ?_ | refine m12 rfl ?_) | ((with_reducible apply TX.cond_true); (focus rfl); (focus (first | rfl | (simp only [z1, zn, h2m, h2l, h2a, h3m, h3l, h3a, h4m, h4l, h4a, h6m, h6l, h6a, h19, h25]; done)))) | ((with_reducible apply TX.cond_false); (focus rfl); (focus (first | rfl | (simp only [z1, zn, h2m, h2l, h2a, h3m, h3l, h3a, h4m, h4l, h4a, h6m, h6l, h6a, h19, h25]; done)))) | fail)
            cases hr
            refine ⟨rfl, ?_⟩
            exact Wk.ren [some 0] rfl (.rows .nil rfl rfl) (by (repeat (first | exact RNs.nil | refine RNs.cons .junk ?_ | refine RNs.cons (.keep rfl rfl) ?_ | refine RNs.cons (.lsl rfl rfl) ?_ | refine RNs.cons (.lsl rfl (by simp only [List.length_set])) ?_ | refine RNs.cons (.lptr rfl) ?_ | refine RNs.cons (.nil rfl) ?_ | refine RNs.cons .nl ?_ | refine RNs.cons (.keep (by simp only [h19, h25]) rfl) ?_ | refine RNs.cons (.tuple' ?_) ?_ | refine RNs.cons (.agg' ?_) ?_)))
        · intro e h; cases h
        · try dsimp only
          repeat (first | (with_reducible first | refine mv ?_ | refine m12 rfl ?_ | refine TO.nil ?_) | ((with_reducible first | apply TO.mv | apply TO.bin | apply TO.asg); (repeat (focus (show _ = _; first | exact k1 rfl | exact k2 rfl | (simp only [zz, y28, e_ii, Nat.reduceAdd, Nat.reduceMul, Nat.reduceLeDiff, Nat.reduceEqDiff, h2m, h2l, h2a, h3m, h3l, h3a, h4m, h4l, h4a, h6m, h6l, h6a, h19] <;> exact rfl) | exact rfl))); (with_reducible refine TO.here ?_)) | ((with_reducible apply TX.region); (focus (simp only [zl] <;> exact rfl)); (focus rfl); (try dsimp only)) | fail)
          cases hr
          refine ⟨rfl, ?_⟩
          exact Wk.ren [some 0] rfl (.rows .nil rfl rfl) (by (repeat (first | exact RNs.nil | refine RNs.cons .junk ?_ | refine RNs.cons (.keep rfl rfl) ?_ | refine RNs.cons (.lsl rfl rfl) ?_ | refine RNs.cons (.lsl rfl (by simp only [List.length_set])) ?_ | refine RNs.cons (.lptr rfl) ?_ | refine RNs.cons (.nil rfl) ?_ | refine RNs.cons .nl ?_ | refine RNs.cons (.keep (by simp only [h19]) rfl) ?_ | refine RNs.cons (.tuple' ?_) ?_ | refine RNs.cons (.agg' ?_) ?_)))
        · try dsimp only
          exact Wk.ren [some 0] rfl (.rows .nil rfl rfl) (by (repeat (first | exact RNs.nil | refine RNs.cons .junk ?_ | refine RNs.cons (.keep rfl rfl) ?_ | refine RNs.cons (.lsl rfl rfl) ?_ | refine RNs.cons (.lsl rfl (by simp only [List.length_set])) ?_ | refine RNs.cons (.lptr rfl) ?_ | refine RNs.cons (.nil rfl) ?_ | refine RNs.cons .nl ?_ | refine RNs.cons (.keep (by simp only [h19]) rfl) ?_ | refine RNs.cons (.tuple' ?_) ?_ | refine RNs.cons (.agg' ?_) ?_)))
      · rw [if_neg (by rw [h19]; exact Bool.false_ne_true)] at hr
        repeat (first | (with_reducible first | refine mv ?_ | refine m12 rfl ?_) | ((with_reducible apply TX.cond_true); (focus rfl); (focus (first | rfl | (simp only [z1, zn, h2m, h2l, h2a, h3m, h3l, h3a, h4m, h4l, h4a, h6m, h6l, h6a, h19]; done)))) | ((with_reducible apply TX.cond_false); (focus rfl); (focus (first | rfl | (simp only [z1, zn, h2m, h2l, h2a, h3m, h3l, h3a, h4m, h4l, h4a, h6m, h6l, h6a, h19]; done)))) | fail)
        cases hr
        refine ⟨rfl, ?_⟩
        exact Wk.ren [some 0] rfl (.rows .nil rfl rfl) (by (repeat (first | exact RNs.nil | refine RNs.cons .junk ?_ | refine RNs.cons (.keep rfl rfl) ?_ | refine RNs.cons (.lsl rfl rfl) ?_ | refine RNs.cons (.lsl rfl (by simp only [List.length_set])) ?_ | refine RNs.cons (.lptr rfl) ?_ | refine RNs.cons (.nil rfl) ?_ | refine RNs.cons .nl ?_ | refine RNs.cons (.keep (by simp only [h19]) rfl) ?_ | refine RNs.cons (.tuple' ?_) ?_ | refine RNs.cons (.agg' ?_) ?_)))
    · intro e h; cases h
    · try dsimp only
      repeat (first | (with_reducible first | refine mv ?_ | refine m12 rfl ?_ | refine TO.nil ?_) | ((with_reducible first | apply TO.mv | apply TO.asg); (repeat (focus (show _ = _; first | exact k1 rfl | exact k2 rfl | (simp only [zz, y28, e_ii, Nat.reduceAdd, Nat.reduceMul, Nat.reduceLeDiff, Nat.reduceEqDiff, h2m, h2l, h2a, h3m, h3l, h3a, h4m, h4l, h4a, h6m, h6l, h6a] <;> exact rfl) | exact rfl))); (with_reducible refine TO.here ?_)) | ((with_reducible apply TX.region); (focus (simp only [zl] <;> exact rfl)); (focus rfl); (try dsimp only)) | fail)
      cases hr
      refine ⟨.inr rfl, _, (by simp only [zy, y28, e_ii, tresAll, tres, tload, rowOf, partT, h2m, h2l, h2a, h3m, h3l, h3a, h4m, h4l, h4a, h6m, h6l, h6a]; exact rfl), ?_⟩
      exact wr [some 0] rfl (.rows .nil rfl rfl)
    · try dsimp only
      exact wr [some 0] rfl (.rows .nil rfl rfl)
  rfl

end Go.Rex

namespace Go.Rex
open Go.Proofs
open Go Go.Rex Go.RowKit
set_option maxRecDepth 100000
def circV : List Value := circT.flatMap fun p => [.int .i64 p.1, .int .i64 p.2]
theorem flat_ii : ∀ l : List (Int × Int), (l.map e_ii).flatten = (l.flatMap fun p => [Value.int .i64 p.1, .int .i64 p.2]).map TV.v
  | [] => rfl
  | p :: t => by simp only [List.map_cons, List.flatten_cons, List.flatMap_cons, List.map_append, flat_ii t]; rfl
theorem follows : Try.prog.follows .mixedOrders = true := by decide +kernel
theorem circ_res : ResOk Try.prog 72 (tabRes 2 circV 1025) := by
  have h := loop_newCircle_spec newCircle_T
  rw [← List.length_map (f := e_ii)] at h
  have := res_of_spec follows h (flat_ii _) (fun v hv => by
    simp only [List.mem_flatMap, List.mem_cons, List.not_mem_nil, or_false] at hv
    obtain ⟨p, _, rfl | rfl⟩ := hv <;> rfl) (fun he => by
    have h1 := congrArg List.length he
    rw [List.length_map, circ_len] at h1
    cases h1)
  rw [List.length_map, circ_len] at this
  exact this
theorem awake_true : AwT Try.prog 14 := awT_of_ecallO follows circ_res (k := 2000) (d := 60) (by decide +kernel)

end Go.Rex

namespace Go.Rex
open Go.Proofs
open Go Go.Rex Go.RowKit
set_option maxRecDepth 100000
set_option maxHeartbeats 4000000
def y29 := an @ag22 <| an @ag24 <| an @ag3 <| an @cs24 <| an @fd24_0 <| an @fd24_1 <| an @ok24 <| an @so22 <| @zc24
theorem law08_LoopChecks_law {v1 : (List Int)} {v2 : Int} {v3 : Int} (hr : law08_LoopChecks v1 v2 v3 = some true) {Fz : Nat → Prop} {h : List Blk} {vs : List Value} (hfz : ∀ n, Fz n → n < h.length) (hargs : VLs Fz h noL [.agg [.list 1 (v1.map e_i), .v (.int .i64 v2)], .v (.int .i64 v3)] vs)
    {B lo : Nat} {D : Nat → Prop} {m : NMap} {w : World} {args' : List Value} (hrel : Rel B lo D m h w) (hlo : lo ≤ h.length) (hargs' : VRs D m vs args') : Calls Try.prog 3 ⟨args'⟩ w (fun e w' => e = .returned (.bool true) ∧ Below w.heap.size w w') := by
  unfold law08_LoopChecks at hr
  refine law_tex follows awake_true Try.func3 rfl (tm0 := .agg [.list 1 (v1.map e_i), .v (.int .i64 v2)] :: .v (.int .i64 v3) :: .junk :: .junk :: .junk :: .junk :: .junk :: .junk :: .junk :: .junk :: .junk :: .junk :: .junk :: .junk :: .junk :: .junk :: .junk :: .junk :: .junk :: .junk :: .junk :: .junk :: .junk :: .junk :: .junk :: .junk :: .junk :: .junk :: .junk :: .junk :: .junk :: .junk :: .junk :: .junk :: .junk :: .junk :: .junk :: .junk :: .junk :: .junk :: .junk :: .junk :: .junk :: .junk :: .junk :: .junk :: .junk :: .junk :: .junk :: .junk :: .junk :: .junk :: .junk :: .junk :: .junk :: .junk :: .junk :: .junk :: .junk :: .junk :: .junk :: .junk :: .junk :: .junk :: .junk :: .junk :: .junk :: .junk :: .junk :: .junk :: .junk :: .junk :: .junk :: .junk :: .junk :: .junk :: .junk :: .junk :: .junk :: .junk :: .junk :: .junk :: .junk :: .junk :: .junk :: .junk :: .junk :: .junk :: .junk :: .junk :: .junk :: .junk :: .junk :: .junk :: []) (by simp [Try.f3] <;> exact rfl) ?_ hfz hargs hrel hlo hargs'
  repeat (first | (with_reducible first | refine mv ?_ | refine m12 rfl ?_ | refine TO.nil ?_) | ((with_reducible first | apply TO.bf | apply TO.asg); (repeat (focus (show _ = _; first | exact k1 rfl | exact k2 rfl | (simp only [zz, y29, e_i, Nat.reduceAdd, Nat.reduceMul, Nat.reduceLeDiff, Nat.reduceEqDiff] <;> exact rfl) | exact rfl))); (with_reducible refine TO.here ?_)) | ((with_reducible apply TX.region); (focus (simp only [zl] <;> exact rfl)); (focus rfl); (try dsimp only)) | fail)
  apply TO.cal (by first | rfl | (simp only [twant, z1, zp, zs]; done)) rfl goFn14 Spec.awake rfl rfl rfl
  (repeat (focus (show _ = _; first | exact k1 rfl | exact k2 rfl | (simp only [zz, y29, e_i, Nat.reduceAdd, Nat.reduceMul, Nat.reduceLeDiff, Nat.reduceEqDiff, shift, kill, killB, frz, frzB, view, tml, tmlc, List.length_set] <;> exact rfl) | exact rfl)))
  with_reducible apply TO.here
  repeat (first | (with_reducible first | refine mv ?_ | refine m12 rfl ?_ | refine TO.nil ?_) | ((with_reducible apply TX.region); (focus (simp only [zl] <;> exact rfl)); (focus rfl); (try dsimp only)) | fail)
  apply TO.pop1 (by first | rfl | (simp only [twant, z1, zp, zs]; done)) (pop_not rfl)
  (repeat (focus (show _ = _; first | exact k1 rfl | exact k2 rfl | (simp only [zz, y29, e_i, Nat.reduceAdd, Nat.reduceMul, Nat.reduceLeDiff, Nat.reduceEqDiff] <;> exact rfl) | exact rfl)))
  with_reducible apply TO.here
  repeat (first | (with_reducible first | refine mv ?_ | refine m12 rfl ?_ | refine TO.nil ?_) | ((with_reducible first | apply TO.ld); (repeat (focus (show _ = _; first | exact k1 rfl | exact k2 rfl | (simp only [zz, y29, e_i, Nat.reduceAdd, Nat.reduceMul, Nat.reduceLeDiff, Nat.reduceEqDiff, tload, rowOf, partT, List.getElem?_map] <;> exact rfl) | exact rfl))); (with_reducible refine TO.here ?_)) | ((with_reducible apply TX.region); (focus (simp only [zl] <;> exact rfl)); (focus rfl); (try dsimp only)) | ((with_reducible apply TX.cond_true); (focus rfl); (focus (first | rfl | (simp only [z1, zn]; done)))) | ((with_reducible apply TX.cond_false); (focus rfl); (focus (first | rfl | (simp only [z1, zn]; done)))) | fail)
  obtain ⟨v5, h1, hr⟩ := Option.bind_eq_some_iff.1 hr
  try dsimp only at hr
  apply TO.cal (by first | rfl | (simp only [twant, z1, zp, zs]; done)) rfl goFn15 (Spec.ov (law08_few_spec h1) (by decide)) rfl rfl rfl
  (repeat (focus (show _ = _; first | exact k1 rfl | exact k2 rfl | (simp only [zz, y29, e_i, Nat.reduceAdd, Nat.reduceMul, Nat.reduceLeDiff, Nat.reduceEqDiff, shift, kill, killB, frz, frzB, view, tml, tmlc, List.length_set] <;> exact rfl) | exact rfl)))
  with_reducible apply TO.here
  repeat (first | (with_reducible first | refine mv ?_ | refine m12 rfl ?_ | refine TO.nil ?_) | ((with_reducible apply TX.region); (focus (simp only [zl] <;> exact rfl)); (focus rfl); (try dsimp only)) | fail)
  apply TO.pop1 (by first | rfl | (simp only [twant, z1, zp, zs]; done)) (pop_not rfl)
  (repeat (focus (show _ = _; first | exact k1 rfl | exact k2 rfl | (simp only [zz, y29, e_i, Nat.reduceAdd, Nat.reduceMul, Nat.reduceLeDiff, Nat.reduceEqDiff] <;> exact rfl) | exact rfl)))
  with_reducible apply TO.here
  repeat (first | (with_reducible first | refine mv ?_ | refine m12 rfl ?_ | refine TO.nil ?_) | ((with_reducible apply TX.region); (focus (simp only [zl] <;> exact rfl)); (focus rfl); (try dsimp only)) | ((with_reducible apply TX.cond_true); (focus rfl); (focus (first | rfl | (simp only [z1, zn]; done)))) | ((with_reducible apply TX.cond_false); (focus rfl); (focus (first | rfl | (simp only [z1, zn]; done)))) | fail)
  rcases Bool.eq_false_or_eq_true (v5) with h2 | h2
  · rw [if_pos h2] at hr
    repeat (first | (with_reducible first | refine mv ?_ | refine m12 rfl ?_ | refine TO.nil ?_) | ((with_reducible first | apply TO.ld); (repeat (focus (show _ = _; first | exact k1 rfl | exact k2 rfl | (simp only [zz, y29, e_i, Nat.reduceAdd, Nat.reduceMul, Nat.reduceLeDiff, Nat.reduceEqDiff, tload, rowOf, partT, List.getElem?_map, h2] <;> exact rfl) | exact rfl))); (with_reducible refine TO.here ?_)) | ((with_reducible apply TX.region); (focus (simp only [zl] <;> exact rfl)); (focus rfl); (try dsimp only)) | ((with_reducible apply TX.cond_true); (focus rfl); (focus (first | rfl | (simp only [z1, zn, h2]; done)))) | ((with_reducible apply TX.cond_false); (focus rfl); (focus (first | rfl | (simp only [z1, zn, h2]; done)))) | fail)
    obtain ⟨⟨v6, v7⟩, h3, hr⟩ := Option.bind_eq_some_iff.1 hr
    try dsimp only at hr
    apply TO.cal (by first | rfl | (simp only [twant, z1, zp, zs, h2]; done)) rfl goFn17 (Spec.ov (ref08_Copy_spec h3) (by decide)) rfl rfl rfl
    (repeat (focus (show _ = _; first | exact k1 rfl | exact k2 rfl | (simp only [zz, y29, e_i, Nat.reduceAdd, Nat.reduceMul, Nat.reduceLeDiff, Nat.reduceEqDiff, shift, kill, killB, frz, frzB, view, tml, tmlc, List.length_set, h2] <;> exact rfl) | exact rfl)))
    with_reducible apply TO.here
    repeat (first | (with_reducible first | refine mv ?_ | refine m12 rfl ?_ | refine TO.nil ?_) | ((with_reducible apply TX.region); (focus (simp only [zl] <;> exact rfl)); (focus rfl); (try dsimp only)) | fail)
    obtain ⟨⟨v8, v9⟩, h4, hr⟩ := Option.bind_eq_some_iff.1 hr
    try dsimp only at hr
    apply TO.lok (by first | rfl | (simp only [twant, z1, zp, zs, h2]; done)) rfl goFn16 (Spec.ov (loop_SizeOf_spec h4) (by decide)) (by simp only [view, z1, z3, zl, tml, tmlc, List.length_set, Nat.reduceEqDiff, if_false] <;> rfl) rfl rfl (by simp [clTB, cl, e_ii, e_i])
    (repeat (focus (show _ = _; first | exact k1 rfl | exact k2 rfl | (simp only [zz, y29, e_i, Nat.reduceAdd, Nat.reduceMul, Nat.reduceLeDiff, Nat.reduceEqDiff, shift, kill, killB, frz, frzB, view, tml, tmlc, List.length_set, h2] <;> exact rfl) | exact rfl)))
    with_reducible apply TO.here
    repeat (first | (with_reducible first | refine mv ?_ | refine m12 rfl ?_ | refine TO.nil ?_) | ((with_reducible first | apply TO.mv | apply TO.ext | apply TO.asg | apply TO.ld); (repeat (focus (show _ = _; first | exact k1 rfl | exact k2 rfl | (simp only [zz, y29, e_i, Nat.reduceAdd, Nat.reduceMul, Nat.reduceLeDiff, Nat.reduceEqDiff, tload, rowOf, partT, List.getElem?_map, h2] <;> exact rfl) | exact rfl))); (with_reducible refine TO.here ?_)) | ((with_reducible apply TX.region); (focus (simp only [zl] <;> exact rfl)); (focus rfl); (try dsimp only)) | fail)
    obtain ⟨⟨v10, v11⟩, h5, hr⟩ := Option.bind_eq_some_iff.1 hr
    try dsimp only at hr
    apply TO.cal (by first | rfl | (simp only [twant, z1, zp, zs, h2]; done)) rfl goFn17 (Spec.ov (ref08_Copy_spec h5) (by decide)) rfl rfl rfl
    (repeat (focus (show _ = _; first | exact k1 rfl | exact k2 rfl | (simp only [zz, y29, e_i, Nat.reduceAdd, Nat.reduceMul, Nat.reduceLeDiff, Nat.reduceEqDiff, shift, kill, killB, frz, frzB, view, tml, tmlc, List.length_set, h2] <;> exact rfl) | exact rfl)))
    with_reducible apply TO.here
    repeat (first | (with_reducible first | refine mv ?_ | refine m12 rfl ?_ | refine TO.nil ?_) | ((with_reducible first | apply TO.mv); (repeat (focus (show _ = _; first | exact k1 rfl | exact k2 rfl | (simp only [zz, y29, e_i, Nat.reduceAdd, Nat.reduceMul, Nat.reduceLeDiff, Nat.reduceEqDiff, h2] <;> exact rfl) | exact rfl))); (with_reducible refine TO.here ?_)) | ((with_reducible apply TX.region); (focus (simp only [zl] <;> exact rfl)); (focus rfl); (try dsimp only)) | fail)
    obtain ⟨⟨v12, v13, v14⟩, h6, hr⟩ := Option.bind_eq_some_iff.1 hr
    try dsimp only at hr
    apply TO.lok (by first | rfl | (simp only [twant, z1, zp, zs, h2]; done)) rfl goFn18 (Spec.ov (loop_Scaled_spec h6) (by decide)) (by simp only [view, z1, z3, zl, tml, tmlc, List.length_set, Nat.reduceEqDiff, if_false] <;> rfl) rfl rfl (by simp [clTB, cl, e_ii, e_i])
    (repeat (focus (show _ = _; first | exact k1 rfl | exact k2 rfl | (simp only [zz, y29, e_i, Nat.reduceAdd, Nat.reduceMul, Nat.reduceLeDiff, Nat.reduceEqDiff, shift, kill, killB, frz, frzB, view, tml, tmlc, List.length_set, h2] <;> exact rfl) | exact rfl)))
    with_reducible apply TO.here
    repeat (first | (with_reducible first | refine mv ?_ | refine m12 rfl ?_ | refine TO.nil ?_) | ((with_reducible first | apply TO.mv | apply TO.ext | apply TO.al | apply TO.sv | apply TO.asg | apply TO.ld); (repeat (focus (show _ = _; first | exact k1 rfl | exact k2 rfl | (simp only [zz, y29, e_i, Nat.reduceAdd, Nat.reduceMul, Nat.reduceLeDiff, Nat.reduceEqDiff, tload, rowOf, partT, List.getElem?_map, h2] <;> exact rfl) | exact rfl))); (with_reducible refine TO.here ?_)) | ((with_reducible apply TX.region); (focus (simp only [zl] <;> exact rfl)); (focus rfl); (try dsimp only)) | fail)
    obtain ⟨v15, h7, hr⟩ := Option.bind_eq_some_iff.1 hr
    try dsimp only at hr
    apply TO.cal (by first | rfl | (simp only [twant, z1, zp, zs, h2]; done)) rfl goFn19 (Spec.ov (ref08_CheckLoop_spec h7) (by decide)) rfl rfl rfl
    (repeat (focus (show _ = _; first | exact k1 rfl | exact k2 rfl | (simp only [zz, y29, e_i, Nat.reduceAdd, Nat.reduceMul, Nat.reduceLeDiff, Nat.reduceEqDiff, shift, kill, killB, frz, frzB, view, tml, tmlc, List.length_set, h2] <;> exact rfl) | exact rfl)))
    with_reducible apply TO.here
    repeat (first | (with_reducible first | refine mv ?_ | refine m12 rfl ?_ | refine TO.nil ?_) | ((with_reducible first | apply TO.asg | apply TO.ld); (repeat (focus (show _ = _; first | exact k1 rfl | exact k2 rfl | (simp only [zz, y29, e_i, Nat.reduceAdd, Nat.reduceMul, Nat.reduceLeDiff, Nat.reduceEqDiff, tload, rowOf, partT, List.getElem?_map, h2] <;> exact rfl) | exact rfl))); (with_reducible refine TO.here ?_)) | ((with_reducible apply TX.region); (focus (simp only [zl] <;> exact rfl)); (focus rfl); (try dsimp only)) | fail)
    obtain ⟨⟨v16, v17⟩, h8, hr⟩ := Option.bind_eq_some_iff.1 hr
    try dsimp only at hr
    apply TO.cal (by first | rfl | (simp only [twant, z1, zp, zs, h2]; done)) rfl goFn17 (Spec.ov (ref08_Copy_spec h8) (by decide)) rfl rfl rfl
    (repeat (focus (show _ = _; first | exact k1 rfl | exact k2 rfl | (simp only [zz, y29, e_i, Nat.reduceAdd, Nat.reduceMul, Nat.reduceLeDiff, Nat.reduceEqDiff, shift, kill, killB, frz, frzB, view, tml, tmlc, List.length_set, h2] <;> exact rfl) | exact rfl)))
    with_reducible apply TO.here
    repeat (first | (with_reducible first | refine mv ?_ | refine m12 rfl ?_ | refine TO.nil ?_) | ((with_reducible apply TX.region); (focus (simp only [zl] <;> exact rfl)); (focus rfl); (try dsimp only)) | fail)
    obtain ⟨v18, h9, hr⟩ := Option.bind_eq_some_iff.1 hr
    try dsimp only at hr
    apply TO.lok (by first | rfl | (simp only [twant, z1, zp, zs, h2]; done)) rfl goFn20 (Spec.ov (loop_CheckLoop_spec h9) (by decide)) (by simp only [view, z1, z3, zl, tml, tmlc, List.length_set, Nat.reduceEqDiff, if_false] <;> rfl) rfl rfl (by simp [clTB, cl, e_ii, e_i])
    (repeat (focus (show _ = _; first | exact k1 rfl | exact k2 rfl | (simp only [zz, y29, e_i, Nat.reduceAdd, Nat.reduceMul, Nat.reduceLeDiff, Nat.reduceEqDiff, shift, kill, killB, frz, frzB, view, tml, tmlc, List.length_set, h2] <;> exact rfl) | exact rfl)))
    with_reducible apply TO.here
    repeat (first | (with_reducible first | refine mv ?_ | refine m12 rfl ?_ | refine TO.nil ?_) | ((with_reducible first | apply TO.mv | apply TO.bin); (repeat (focus (show _ = _; first | exact k1 rfl | exact k2 rfl | (simp only [zz, y29, e_i, Nat.reduceAdd, Nat.reduceMul, Nat.reduceLeDiff, Nat.reduceEqDiff, h2] <;> exact rfl) | exact rfl))); (with_reducible refine TO.here ?_)) | ((with_reducible apply TX.region); (focus (simp only [zl] <;> exact rfl)); (focus rfl); (try dsimp only)) | ((with_reducible apply TX.cond_true); (focus rfl); (focus (first | rfl | (simp only [z1, zn, h2]; done)))) | ((with_reducible apply TX.cond_false); (focus rfl); (focus (first | rfl | (simp only [z1, zn, h2]; done)))) | fail)
    rcases Bool.eq_false_or_eq_true ((decide (v18 ≠ v15))) with h10 | h10
    · rw [if_pos h10] at hr
      repeat (first | (with_reducible first | refine mv ?_ | refine m12 rfl ?_ | refine TO.nil ?_) | ((with_reducible first | apply TO.asg); (repeat (focus (show _ = _; first | exact k1 rfl | exact k2 rfl | (simp only [zz, y29, e_i, Nat.reduceAdd, Nat.reduceMul, Nat.reduceLeDiff, Nat.reduceEqDiff, h2, h10] <;> exact rfl) | exact rfl))); (with_reducible refine TO.here ?_)) | ((with_reducible apply TX.region); (focus (simp only [zl] <;> exact rfl)); (focus rfl); (try dsimp only)) | ((with_reducible apply TX.cond_true); (focus rfl); (focus (first | rfl | (simp only [z1, zn, h2, h10]; done)))) | ((with_reducible apply TX.cond_false); (focus rfl); (focus (first | rfl | (simp only [z1, zn, h2, h10]; done)))) | fail)
      have hb := Option.some.inj hr
      first | (cases hb; done) | (refine ⟨.inr rfl, ?_⟩; first | (simp only [tresAll, tres, z1, hb, Option.map_some] <;> exact rfl) | (simp only [h2, h10] at hb; simp only [tresAll, tres, z1, hb, Option.map_some] <;> exact rfl))
    · rw [if_neg (by rw [h10]; exact Bool.false_ne_true)] at hr
      repeat (first | (with_reducible first | refine mv ?_ | refine m12 rfl ?_ | refine TO.nil ?_) | ((with_reducible first | apply TO.mv | apply TO.bin); (repeat (focus (show _ = _; first | exact k1 rfl | exact k2 rfl | (simp only [zz, y29, e_i, Nat.reduceAdd, Nat.reduceMul, Nat.reduceLeDiff, Nat.reduceEqDiff, h2, h10] <;> exact rfl) | exact rfl))); (with_reducible refine TO.here ?_)) | ((with_reducible apply TX.region); (focus (simp only [zl] <;> exact rfl)); (focus rfl); (try dsimp only)) | ((with_reducible apply TX.cond_true); (focus rfl); (focus (first | rfl | (simp only [z1, zn, h2, h10]; done)))) | ((with_reducible apply TX.cond_false); (focus rfl); (focus (first | rfl | (simp only [z1, zn, h2, h10]; done)))) | fail)
      rcases Bool.eq_false_or_eq_true ((decide (v15 ≠ 0))) with h11 | h11
      · rw [if_pos h11] at hr
        repeat (first | (with_reducible first | refine mv ?_ | refine m12 rfl ?_ | refine TO.nil ?_) | ((with_reducible first | apply TO.mv | apply TO.bin); (repeat (focus (show _ = _; first | exact k1 rfl | exact k2 rfl | (simp only [zz, y29, e_i, Nat.reduceAdd, Nat.reduceMul, Nat.reduceLeDiff, Nat.reduceEqDiff, h2, h10, h11] <;> exact rfl) | exact rfl))); (with_reducible refine TO.here ?_)) | ((with_reducible apply TX.region); (focus (simp only [zl] <;> exact rfl)); (focus rfl); (try dsimp only)) | ((with_reducible apply TX.cond_true); (focus rfl); (focus (first | rfl | (simp only [z1, zn, h2, h10, h11]; done)))) | ((with_reducible apply TX.cond_false); (focus rfl); (focus (first | rfl | (simp only [z1, zn, h2, h10, h11]; done)))) | fail)
        rcases Bool.eq_false_or_eq_true ((decide (v9 = v15))) with h12 | h12
        · rw [if_pos h12] at hr
          repeat (first | (with_reducible first | refine mv ?_ | refine m12 rfl ?_ | refine TO.nil ?_) | ((with_reducible first | apply TO.mv | apply TO.bin | apply TO.pk); (repeat (focus (show _ = _; first | exact k1 rfl | exact k2 rfl | (simp only [zz, y29, e_i, Nat.reduceAdd, Nat.reduceMul, Nat.reduceLeDiff, Nat.reduceEqDiff, h2, h10, h11, h12] <;> exact rfl) | exact rfl))); (with_reducible refine TO.here ?_)) | ((with_reducible apply TX.region); (focus (simp only [zl] <;> exact rfl)); (focus rfl); (try dsimp only)) | fail)
          rcases Bool.eq_false_or_eq_true ((decide (v14 = v15))) with h13 | h13
          · rw [if_pos h13] at hr
            repeat (first | (with_reducible first | refine mv ?_ | refine m12 rfl ?_ | refine TO.nil ?_) | ((with_reducible first | apply TO.mv | apply TO.bin | apply TO.pk); (repeat (focus (show _ = _; first | exact k1 rfl | exact k2 rfl | (simp only [zz, y29, e_i, Nat.reduceAdd, Nat.reduceMul, Nat.reduceLeDiff, Nat.reduceEqDiff, h2, h10, h11, h12, h13] <;> exact rfl) | exact rfl))); (with_reducible refine TO.here ?_)) | ((with_reducible apply TX.region); (focus (simp only [zl] <;> exact rfl)); (focus rfl); (try dsimp only)) | fail)
            rcases Bool.eq_false_or_eq_true ((decide (v8 = 0))) with h14 | h14
            · rw [if_pos h14] at hr
              repeat (first | (with_reducible first | refine mv ?_ | refine m12 rfl ?_ | refine TO.nil ?_) | ((with_reducible first | apply TO.fa | apply TO.ld | apply TO.len | apply TO.bin | apply TO.pk | apply TO.mv); (repeat (focus (show _ = _; first | exact k1 rfl | exact k2 rfl | (simp only [zz, y29, e_i, Nat.reduceAdd, Nat.reduceMul, Nat.reduceLeDiff, Nat.reduceEqDiff, tfieldAddr, tload, rowOf, partT, List.getElem?_map, tlen, h2, h10, h11, h12, h13, h14] <;> exact rfl) | exact rfl))); (with_reducible refine TO.here ?_)) | ((with_reducible apply TX.region); (focus (simp only [zl] <;> exact rfl)); (focus rfl); (try dsimp only)) | fail)
              rcases Bool.eq_false_or_eq_true ((decide ((v12.length : Int) = 0))) with h15 | h15
              · rw [if_pos h15] at hr
                repeat (first | (with_reducible first | refine mv ?_ | refine m12 rfl ?_ | refine TO.nil ?_) | ((with_reducible first | apply TO.fa | apply TO.ld | apply TO.bin | apply TO.pk | apply TO.asg); (repeat (focus (show _ = _; first | exact k1 rfl | exact k2 rfl | (simp only [zz, y29, e_i, Nat.reduceAdd, Nat.reduceMul, Nat.reduceLeDiff, Nat.reduceEqDiff, tfieldAddr, tload, rowOf, partT, List.getElem?_map, h2, h10, h11, h12, h13, h14, h15] <;> exact rfl) | exact rfl))); (with_reducible refine TO.here ?_)) | ((with_reducible apply TX.region); (focus (simp only [zl] <;> exact rfl)); (focus rfl); (try dsimp only)) | fail)
                have hb := Option.some.inj hr
                first | (cases hb; done) | (refine ⟨.inr rfl, ?_⟩; first | (simp only [tresAll, tres, z1, hb, Option.map_some] <;> exact rfl) | (simp only [h2, h10, h11, h12, h13, h14, h15] at hb; simp only [tresAll, tres, z1, hb, Option.map_some] <;> exact rfl))
              · rw [if_neg (by rw [h15]; exact Bool.false_ne_true)] at hr
                repeat (first | (with_reducible first | refine mv ?_ | refine m12 rfl ?_ | refine TO.nil ?_) | ((with_reducible first | apply TO.pk | apply TO.asg); (repeat (focus (show _ = _; first | exact k1 rfl | exact k2 rfl | (simp only [zz, y29, e_i, Nat.reduceAdd, Nat.reduceMul, Nat.reduceLeDiff, Nat.reduceEqDiff, h2, h10, h11, h12, h13, h14, h15] <;> exact rfl) | exact rfl))); (with_reducible refine TO.here ?_)) | ((with_reducible apply TO.skip1); (repeat (focus (show _ = _; first | exact k1 rfl | exact k2 rfl | (simp only [zz, y29, e_i, Nat.reduceAdd, Nat.reduceMul, Nat.reduceLeDiff, Nat.reduceEqDiff, twant, zp, zs, h2, h10, h11, h12, h13, h14, h15] <;> exact rfl) | exact rfl))); (with_reducible refine TO.here ?_)) | ((with_reducible apply TX.region); (focus (simp only [zl] <;> exact rfl)); (focus rfl); (try dsimp only)) | fail)
                have hb := Option.some.inj hr
                first | (cases hb; done) | (refine ⟨.inr rfl, ?_⟩; first | (simp only [tresAll, tres, z1, hb, Option.map_some] <;> exact rfl) | (simp only [h2, h10, h11, h12, h13, h14, h15] at hb; simp only [tresAll, tres, z1, hb, Option.map_some] <;> exact rfl))
            · rw [if_neg (by rw [h14]; exact Bool.false_ne_true)] at hr
              repeat (first | (with_reducible first | refine mv ?_ | refine m12 rfl ?_ | refine TO.nil ?_) | ((with_reducible first | apply TO.pk | apply TO.mv | apply TO.asg); (repeat (focus (show _ = _; first | exact k1 rfl | exact k2 rfl | (simp only [zz, y29, e_i, Nat.reduceAdd, Nat.reduceMul, Nat.reduceLeDiff, Nat.reduceEqDiff, h2, h10, h11, h12, h13, h14] <;> exact rfl) | exact rfl))); (with_reducible refine TO.here ?_)) | ((with_reducible apply TO.skip1); (repeat (focus (show _ = _; first | exact k1 rfl | exact k2 rfl | (simp only [zz, y29, e_i, Nat.reduceAdd, Nat.reduceMul, Nat.reduceLeDiff, Nat.reduceEqDiff, twant, zp, zs, h2, h10, h11, h12, h13, h14] <;> exact rfl) | exact rfl))); (with_reducible refine TO.here ?_)) | ((with_reducible apply TX.region); (focus (simp only [zl] <;> exact rfl)); (focus rfl); (try dsimp only)) | fail)
              have hb := Option.some.inj hr
              first | (cases hb; done) | (refine ⟨.inr rfl, ?_⟩; first | (simp only [tresAll, tres, z1, hb, Option.map_some] <;> exact rfl) | (simp only [h2, h10, h11, h12, h13, h14] at hb; simp only [tresAll, tres, z1, hb, Option.map_some] <;> exact rfl))
          · rw [if_neg (by rw [h13]; exact Bool.false_ne_true)] at hr
            repeat (first | (with_reducible first | refine mv ?_ | refine m12 rfl ?_ | refine TO.nil ?_) | ((with_reducible first | apply TO.pk | apply TO.mv | apply TO.asg); (repeat (focus (show _ = _; first | exact k1 rfl | exact k2 rfl | (simp only [zz, y29, e_i, Nat.reduceAdd, Nat.reduceMul, Nat.reduceLeDiff, Nat.reduceEqDiff, h2, h10, h11, h12, h13] <;> exact rfl) | exact rfl))); (with_reducible refine TO.here ?_)) | ((with_reducible apply TO.skip1); (repeat (focus (show _ = _; first | exact k1 rfl | exact k2 rfl | (simp only [zz, y29, e_i, Nat.reduceAdd, Nat.reduceMul, Nat.reduceLeDiff, Nat.reduceEqDiff, twant, zp, zs, h2, h10, h11, h12, h13] <;> exact rfl) | exact rfl))); (with_reducible refine TO.here ?_)) | ((with_reducible apply TX.region); (focus (simp only [zl] <;> exact rfl)); (focus rfl); (try dsimp only)) | fail)
            have hb := Option.some.inj hr
            first | (cases hb; done) | (refine ⟨.inr rfl, ?_⟩; first | (simp only [tresAll, tres, z1, hb, Option.map_some] <;> exact rfl) | (simp only [h2, h10, h11, h12, h13] at hb; simp only [tresAll, tres, z1, hb, Option.map_some] <;> exact rfl))
        · rw [if_neg (by rw [h12]; exact Bool.false_ne_true)] at hr
          repeat (first | (with_reducible first | refine mv ?_ | refine m12 rfl ?_ | refine TO.nil ?_) | ((with_reducible first | apply TO.pk | apply TO.mv | apply TO.asg); (repeat (focus (show _ = _; first | exact k1 rfl | exact k2 rfl | (simp only [zz, y29, e_i, Nat.reduceAdd, Nat.reduceMul, Nat.reduceLeDiff, Nat.reduceEqDiff, h2, h10, h11, h12] <;> exact rfl) | exact rfl))); (with_reducible refine TO.here ?_)) | ((with_reducible apply TO.skip1); (repeat (focus (show _ = _; first | exact k1 rfl | exact k2 rfl | (simp only [zz, y29, e_i, Nat.reduceAdd, Nat.reduceMul, Nat.reduceLeDiff, Nat.reduceEqDiff, twant, zp, zs, h2, h10, h11, h12] <;> exact rfl) | exact rfl))); (with_reducible refine TO.here ?_)) | ((with_reducible apply TX.region); (focus (simp only [zl] <;> exact rfl)); (focus rfl); (try dsimp only)) | fail)
          have hb := Option.some.inj hr
          first | (cases hb; done) | (refine ⟨.inr rfl, ?_⟩; first | (simp only [tresAll, tres, z1, hb, Option.map_some] <;> exact rfl) | (simp only [h2, h10, h11, h12] at hb; simp only [tresAll, tres, z1, hb, Option.map_some] <;> exact rfl))
      · rw [if_neg (by rw [h11]; exact Bool.false_ne_true)] at hr
        repeat (first | (with_reducible first | refine mv ?_ | refine m12 rfl ?_ | refine TO.nil ?_) | ((with_reducible first | apply TO.ld | apply TO.mv); (repeat (focus (show _ = _; first | exact k1 rfl | exact k2 rfl | (simp only [zz, y29, e_i, Nat.reduceAdd, Nat.reduceMul, Nat.reduceLeDiff, Nat.reduceEqDiff, tload, rowOf, partT, List.getElem?_map, h2, h10, h11] <;> exact rfl) | exact rfl))); (with_reducible refine TO.here ?_)) | ((with_reducible apply TX.region); (focus (simp only [zl] <;> exact rfl)); (focus rfl); (try dsimp only)) | ((with_reducible apply TX.cond_true); (focus rfl); (focus (first | rfl | (simp only [z1, zn, h2, h10, h11]; done)))) | ((with_reducible apply TX.cond_false); (focus rfl); (focus (first | rfl | (simp only [z1, zn, h2, h10, h11]; done)))) | fail)
        obtain ⟨⟨v19, v20, v21⟩, h16, hr⟩ := Option.bind_eq_some_iff.1 hr
        try dsimp only at hr
        apply TO.cal (by first | rfl | (simp only [twant, z1, zp, zs, h2, h10, h11]; done)) rfl goFn21 (Spec.ov (ref08_Scaled_spec h16) (by decide)) rfl rfl rfl
        (repeat (focus (show _ = _; first | exact k1 rfl | exact k2 rfl | (simp only [zz, y29, e_i, Nat.reduceAdd, Nat.reduceMul, Nat.reduceLeDiff, Nat.reduceEqDiff, shift, kill, killB, frz, frzB, view, tml, tmlc, List.length_set, h2, h10, h11] <;> exact rfl) | exact rfl)))
        with_reducible apply TO.here
        repeat (first | (with_reducible first | refine mv ?_ | refine m12 rfl ?_ | refine TO.nil ?_) | ((with_reducible first | apply TO.mv | apply TO.ext | apply TO.al | apply TO.sv | apply TO.asg | apply TO.bin); (repeat (focus (show _ = _; first | exact k1 rfl | exact k2 rfl | (simp only [zz, y29, e_i, Nat.reduceAdd, Nat.reduceMul, Nat.reduceLeDiff, Nat.reduceEqDiff, h2, h10, h11] <;> exact rfl) | exact rfl))); (with_reducible refine TO.here ?_)) | ((with_reducible apply TX.region); (focus (simp only [zl] <;> exact rfl)); (focus rfl); (try dsimp only)) | fail)
        rcases Bool.eq_false_or_eq_true ((decide (v9 = 0))) with h17 | h17
        · rw [if_pos h17] at hr
          repeat (first | (with_reducible first | refine mv ?_ | refine m12 rfl ?_ | refine TO.nil ?_) | ((with_reducible first | apply TO.mv | apply TO.ld); (repeat (focus (show _ = _; first | exact k1 rfl | exact k2 rfl | (simp only [zz, y29, e_i, Nat.reduceAdd, Nat.reduceMul, Nat.reduceLeDiff, Nat.reduceEqDiff, tload, rowOf, partT, List.getElem?_map, h2, h10, h11, h17] <;> exact rfl) | exact rfl))); (with_reducible refine TO.here ?_)) | ((with_reducible apply TX.region); (focus (simp only [zl] <;> exact rfl)); (focus rfl); (try dsimp only)) | fail)
          obtain ⟨v22, h18, hr⟩ := Option.bind_eq_some_iff.1 hr
          try dsimp only at hr
          apply TO.cal (by first | rfl | (simp only [twant, z1, zp, zs, h2, h10, h11, h17]; done)) rfl goFn22 (Spec.ov (ref08_SizeOf_spec h18) (by decide)) rfl rfl rfl
          (repeat (focus (show _ = _; first | exact k1 rfl | exact k2 rfl | (simp only [zz, y29, e_i, Nat.reduceAdd, Nat.reduceMul, Nat.reduceLeDiff, Nat.reduceEqDiff, shift, kill, killB, frz, frzB, view, tml, tmlc, List.length_set, h2, h10, h11, h17] <;> exact rfl) | exact rfl)))
          with_reducible apply TO.here
          repeat (first | (with_reducible first | refine mv ?_ | refine m12 rfl ?_ | refine TO.nil ?_) | ((with_reducible first | apply TO.bin | apply TO.pk | apply TO.mv); (repeat (focus (show _ = _; first | exact k1 rfl | exact k2 rfl | (simp only [zz, y29, e_i, Nat.reduceAdd, Nat.reduceMul, Nat.reduceLeDiff, Nat.reduceEqDiff, h2, h10, h11, h17] <;> exact rfl) | exact rfl))); (with_reducible refine TO.here ?_)) | ((with_reducible apply TX.region); (focus (simp only [zl] <;> exact rfl)); (focus rfl); (try dsimp only)) | fail)
          rcases Bool.eq_false_or_eq_true ((decide (v8 = v22))) with h19 | h19
          · rw [if_pos h19] at hr
            repeat (first | (with_reducible first | refine mv ?_ | refine m12 rfl ?_ | refine TO.nil ?_) | ((with_reducible first | apply TO.mv | apply TO.bin | apply TO.pk); (repeat (focus (show _ = _; first | exact k1 rfl | exact k2 rfl | (simp only [zz, y29, e_i, Nat.reduceAdd, Nat.reduceMul, Nat.reduceLeDiff, Nat.reduceEqDiff, h2, h10, h11, h17, h19] <;> exact rfl) | exact rfl))); (with_reducible refine TO.here ?_)) | ((with_reducible apply TX.region); (focus (simp only [zl] <;> exact rfl)); (focus rfl); (try dsimp only)) | fail)
            rcases Bool.eq_false_or_eq_true ((decide (v14 = v21))) with h20 | h20
            · rw [if_pos h20] at hr
              repeat (first | (with_reducible first | refine mv ?_ | refine m12 rfl ?_ | refine TO.nil ?_) | ((with_reducible first | apply TO.fa | apply TO.ld); (repeat (focus (show _ = _; first | exact k1 rfl | exact k2 rfl | (simp only [zz, y29, e_i, Nat.reduceAdd, Nat.reduceMul, Nat.reduceLeDiff, Nat.reduceEqDiff, tfieldAddr, tload, rowOf, partT, List.getElem?_map, h2, h10, h11, h17, h19, h20] <;> exact rfl) | exact rfl))); (with_reducible refine TO.here ?_)) | ((with_reducible apply TX.region); (focus (simp only [zl] <;> exact rfl)); (focus rfl); (try dsimp only)) | fail)
              obtain ⟨v23, h21, hr⟩ := Option.bind_eq_some_iff.1 hr
              try dsimp only at hr
              apply TO.lok (by first | rfl | (simp only [twant, z1, zp, zs, h2, h10, h11, h17, h19, h20]; done)) rfl goFn23 (Spec.ov (base_Ints_spec h21) (by decide)) (by simp only [view, z1, z3, zl, tml, tmlc, List.length_set, Nat.reduceEqDiff, if_false] <;> rfl) rfl rfl (by simp [clTB, cl, e_ii, e_i])
              (repeat (focus (show _ = _; first | exact k1 rfl | exact k2 rfl | (simp only [zz, y29, e_i, Nat.reduceAdd, Nat.reduceMul, Nat.reduceLeDiff, Nat.reduceEqDiff, shift, kill, killB, frz, frzB, view, tml, tmlc, List.length_set, h2, h10, h11, h17, h19, h20] <;> exact rfl) | exact rfl)))
              with_reducible apply TO.here
              repeat (first | (with_reducible first | refine mv ?_ | refine m12 rfl ?_ | refine TO.nil ?_) | ((with_reducible first | apply TO.pk | apply TO.mv); (repeat (focus (show _ = _; first | exact k1 rfl | exact k2 rfl | (simp only [zz, y29, e_i, Nat.reduceAdd, Nat.reduceMul, Nat.reduceLeDiff, Nat.reduceEqDiff, h2, h10, h11, h17, h19, h20] <;> exact rfl) | exact rfl))); (with_reducible refine TO.here ?_)) | ((with_reducible apply TX.region); (focus (simp only [zl] <;> exact rfl)); (focus rfl); (try dsimp only)) | fail)
              rcases Bool.eq_false_or_eq_true (v23) with h22 | h22
              · rw [if_pos h22] at hr
                repeat (first | (with_reducible first | refine mv ?_ | refine m12 rfl ?_ | refine TO.nil ?_) | ((with_reducible first | apply TO.fa | apply TO.ld | apply TO.bin | apply TO.pk | apply TO.asg); (repeat (focus (show _ = _; first | exact k1 rfl | exact k2 rfl | (simp only [zz, y29, e_i, Nat.reduceAdd, Nat.reduceMul, Nat.reduceLeDiff, Nat.reduceEqDiff, tfieldAddr, tload, rowOf, partT, List.getElem?_map, h2, h10, h11, h17, h19, h20, h22] <;> exact rfl) | exact rfl))); (with_reducible refine TO.here ?_)) | ((with_reducible apply TX.region); (focus (simp only [zl] <;> exact rfl)); (focus rfl); (try dsimp only)) | fail)
                have hb := Option.some.inj hr
                first | (cases hb; done) | (refine ⟨.inr rfl, ?_⟩; first | (simp only [tresAll, tres, z1, hb, Option.map_some] <;> exact rfl) | (simp only [h2, h10, h11, h17, h19, h20, h22] at hb; simp only [tresAll, tres, z1, hb, Option.map_some] <;> exact rfl))
              · rw [if_neg (by rw [h22]; exact Bool.false_ne_true)] at hr
                repeat (first | (with_reducible first | refine mv ?_ | refine m12 rfl ?_ | refine TO.nil ?_) | ((with_reducible first | apply TO.pk | apply TO.asg); (repeat (focus (show _ = _; first | exact k1 rfl | exact k2 rfl | (simp only [zz, y29, e_i, Nat.reduceAdd, Nat.reduceMul, Nat.reduceLeDiff, Nat.reduceEqDiff, h2, h10, h11, h17, h19, h20, h22] <;> exact rfl) | exact rfl))); (with_reducible refine TO.here ?_)) | ((with_reducible apply TO.skip1); (repeat (focus (show _ = _; first | exact k1 rfl | exact k2 rfl | (simp only [zz, y29, e_i, Nat.reduceAdd, Nat.reduceMul, Nat.reduceLeDiff, Nat.reduceEqDiff, twant, zp, zs, h2, h10, h11, h17, h19, h20, h22] <;> exact rfl) | exact rfl))); (with_reducible refine TO.here ?_)) | ((with_reducible apply TX.region); (focus (simp only [zl] <;> exact rfl)); (focus rfl); (try dsimp only)) | fail)
                have hb := Option.some.inj hr
                first | (cases hb; done) | (refine ⟨.inr rfl, ?_⟩; first | (simp only [tresAll, tres, z1, hb, Option.map_some] <;> exact rfl) | (simp only [h2, h10, h11, h17, h19, h20, h22] at hb; simp only [tresAll, tres, z1, hb, Option.map_some] <;> exact rfl))
            · rw [if_neg (by rw [h20]; exact Bool.false_ne_true)] at hr
              repeat (first | (with_reducible first | refine mv ?_ | refine m12 rfl ?_ | refine TO.nil ?_) | ((with_reducible first | apply TO.pk | apply TO.mv | apply TO.asg); (repeat (focus (show _ = _; first | exact k1 rfl | exact k2 rfl | (simp only [zz, y29, e_i, Nat.reduceAdd, Nat.reduceMul, Nat.reduceLeDiff, Nat.reduceEqDiff, h2, h10, h11, h17, h19, h20] <;> exact rfl) | exact rfl))); (with_reducible refine TO.here ?_)) | ((with_reducible apply TO.skip1); (repeat (focus (show _ = _; first | exact k1 rfl | exact k2 rfl | (simp only [zz, y29, e_i, Nat.reduceAdd, Nat.reduceMul, Nat.reduceLeDiff, Nat.reduceEqDiff, twant, zp, zs, h2, h10, h11, h17, h19, h20] <;> exact rfl) | exact rfl))); (with_reducible refine TO.here ?_)) | ((with_reducible apply TX.region); (focus (simp only [zl] <;> exact rfl)); (focus rfl); (try dsimp only)) | fail)
              have hb := Option.some.inj hr
              first | (cases hb; done) | (refine ⟨.inr rfl, ?_⟩; first | (simp only [tresAll, tres, z1, hb, Option.map_some] <;> exact rfl) | (simp only [h2, h10, h11, h17, h19, h20] at hb; simp only [tresAll, tres, z1, hb, Option.map_some] <;> exact rfl))
          · rw [if_neg (by rw [h19]; exact Bool.false_ne_true)] at hr
            repeat (first | (with_reducible first | refine mv ?_ | refine m12 rfl ?_ | refine TO.nil ?_) | ((with_reducible first | apply TO.pk | apply TO.mv | apply TO.asg); (repeat (focus (show _ = _; first | exact k1 rfl | exact k2 rfl | (simp only [zz, y29, e_i, Nat.reduceAdd, Nat.reduceMul, Nat.reduceLeDiff, Nat.reduceEqDiff, h2, h10, h11, h17, h19] <;> exact rfl) | exact rfl))); (with_reducible refine TO.here ?_)) | ((with_reducible apply TO.skip1); (repeat (focus (show _ = _; first | exact k1 rfl | exact k2 rfl | (simp only [zz, y29, e_i, Nat.reduceAdd, Nat.reduceMul, Nat.reduceLeDiff, Nat.reduceEqDiff, twant, zp, zs, h2, h10, h11, h17, h19] <;> exact rfl) | exact rfl))); (with_reducible refine TO.here ?_)) | ((with_reducible apply TX.region); (focus (simp only [zl] <;> exact rfl)); (focus rfl); (try dsimp only)) | fail)
            have hb := Option.some.inj hr
            first | (cases hb; done) | (refine ⟨.inr rfl, ?_⟩; first | (simp only [tresAll, tres, z1, hb, Option.map_some] <;> exact rfl) | (simp only [h2, h10, h11, h17, h19] at hb; simp only [tresAll, tres, z1, hb, Option.map_some] <;> exact rfl))
        · rw [if_neg (by rw [h17]; exact Bool.false_ne_true)] at hr
          repeat (first | (with_reducible first | refine mv ?_ | refine m12 rfl ?_ | refine TO.nil ?_) | ((with_reducible first | apply TO.pk | apply TO.mv | apply TO.asg); (repeat (focus (show _ = _; first | exact k1 rfl | exact k2 rfl | (simp only [zz, y29, e_i, Nat.reduceAdd, Nat.reduceMul, Nat.reduceLeDiff, Nat.reduceEqDiff, h2, h10, h11, h17] <;> exact rfl) | exact rfl))); (with_reducible refine TO.here ?_)) | ((with_reducible apply TO.skip1); (repeat (focus (show _ = _; first | exact k1 rfl | exact k2 rfl | (simp only [zz, y29, e_i, Nat.reduceAdd, Nat.reduceMul, Nat.reduceLeDiff, Nat.reduceEqDiff, twant, zp, zs, h2, h10, h11, h17] <;> exact rfl) | exact rfl))); (with_reducible refine TO.here ?_)) | ((with_reducible apply TX.region); (focus (simp only [zl] <;> exact rfl)); (focus rfl); (try dsimp only)) | fail)
          have hb := Option.some.inj hr
          first | (cases hb; done) | (refine ⟨.inr rfl, ?_⟩; first | (simp only [tresAll, tres, z1, hb, Option.map_some] <;> exact rfl) | (simp only [h2, h10, h11, h17] at hb; simp only [tresAll, tres, z1, hb, Option.map_some] <;> exact rfl))
  · rw [if_neg (by rw [h2]; exact Bool.false_ne_true)] at hr
    repeat (first | (with_reducible first | refine mv ?_ | refine m12 rfl ?_ | refine TO.nil ?_) | ((with_reducible first | apply TO.asg); (repeat (focus (show _ = _; first | exact k1 rfl | exact k2 rfl | (simp only [zz, y29, e_i, Nat.reduceAdd, Nat.reduceMul, Nat.reduceLeDiff, Nat.reduceEqDiff, h2] <;> exact rfl) | exact rfl))); (with_reducible refine TO.here ?_)) | ((with_reducible apply TX.region); (focus (simp only [zl] <;> exact rfl)); (focus rfl); (try dsimp only)) | ((with_reducible apply TX.cond_true); (focus rfl); (focus (first | rfl | (simp only [z1, zn, h2]; done)))) | ((with_reducible apply TX.cond_false); (focus rfl); (focus (first | rfl | (simp only [z1, zn, h2]; done)))) | fail)
    have hb := Option.some.inj hr
    first | (cases hb; done) | (refine ⟨.inr rfl, ?_⟩; first | (simp only [tresAll, tres, z1, hb, Option.map_some] <;> exact rfl) | (simp only [h2] at hb; simp only [tresAll, tres, z1, hb, Option.map_some] <;> exact rfl))

end Go.Rex
