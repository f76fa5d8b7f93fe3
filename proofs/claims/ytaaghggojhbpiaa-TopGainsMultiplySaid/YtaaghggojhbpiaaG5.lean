/- Proofs that the program's functions do what these plain functions say. -/
import Derived.Test.YtaaghggojhbpiaaGB
import Derived.Test.YtaaghggojhbpiaaS
import Derived.Test.YtaaghggojhbpiaaG1
import Derived.Test.YtaaghggojhbpiaaG2
import Derived.Test.YtaaghggojhbpiaaG4
set_option linter.unusedSimpArgs false
set_option linter.unusedVariables false
set_option linter.defProp false
namespace Go.Rex
open Go.Proofs
open Go Go.Rex Go.RowKit
set_option maxRecDepth 100000
def ty_filter_GainRange := an @ag31 <| an @ag43 <| an @ag45 <| an @ag66 <| an @cs31 <| an @cs32 <| an @cs43 <| an @cs45 <| an @cs66 <| an @ok31 <| an @ok43 <| an @ok45 <| an @ok66 <| an @so25 <| an @so83 <| an @st45 <| an @zc31 <| an @zc32 <| an @zc45 <| an @zc66 <| @wi64_0a1
theorem filter_GainRange_spec {v1 : (List (Int × Int × Int × Int × Int))} {v2 : Int} {v3 : Int} {v4 : Int} {v5 : Int} {v6 : Int} {v7 : Int} (hr : filter_GainRange v1 v2 v3 v4 = some (v5, v6, v7)) : Spec (lim Try.prog) 12 [.list 5 (v1.map e_iiiii), .agg [.v (.int .i64 v2), .v (.int .i64 v3), .v (.int .i64 v4)]] ⟨[.tuple [.agg [.v (.int .i64 v5), .v (.int .i64 v6)], .v (.int .i64 v7)]], []⟩ := by
  unfold filter_GainRange at hr
  apply Spec.fn Try.func12 rfl
  focus (simp [Try.f12] <;> exact rfl)
  focus
    repeat (first | with_reducible refine mv ?_ | with_reducible refine m12 rfl ?_ | with_reducible refine TO.nil ?_ | ((with_reducible first | apply TO.bf | apply TO.al | apply TO.asg); (repeat (focus (show _ = _; first | exact k1 rfl | exact k2 rfl | (simp only [zz, ty_filter_GainRange, e_i, e_iiiii, Nat.reduceAdd, Nat.reduceMul, Nat.reduceLeDiff] <;> exact rfl) | exact rfl))); (with_reducible refine TO.here ?_)) | ((with_reducible apply TX.region); (focus (simp only [List.toList_toArray] <;> exact rfl)); (focus rfl); (try dsimp only)) | with_reducible refine TD.nil ?_ | ((with_reducible first | apply TD.mv); (repeat (focus (show _ = _; first | exact k1 rfl | exact k2 rfl | (simp only [zz, ty_filter_GainRange, e_i, e_iiiii, Nat.reduceAdd, Nat.reduceMul, Nat.reduceLeDiff] <;> exact rfl) | exact rfl))); (with_reducible refine TD.here ?_)) | ((with_reducible apply TX.drawn); (focus decide +kernel); (focus (simp only [List.toList_toArray] <;> exact rfl)); (focus exact rfl); (try dsimp only)) | fail)
    obtain ⟨v8, h1, hr⟩ := Option.bind_eq_some_iff.1 hr
    try dsimp only at hr
    first | apply TD.cal (by first | rfl | (simp only [twant, z1, List.getElem?_toArray, Option.bind_some]; done)) rfl goFn23 (filter_cascadeError_spec h1) rfl rfl rfl | apply TD.calw (by first | rfl | (simp only [twant, z1, List.getElem?_toArray, Option.bind_some]; done)) rfl goFn23 (filter_cascadeError_spec h1) rfl rfl rfl rfl
    (repeat (focus (show _ = _; first | exact k1 rfl | exact k2 rfl | (simp only [zz, ty_filter_GainRange, e_i, e_iiiii, Nat.reduceAdd, Nat.reduceMul, Nat.reduceLeDiff, shift, kill, killB, frz, frzB, view, tml, tmlc, List.length_set] <;> exact rfl) | exact rfl)))
    with_reducible apply TD.here
    repeat (first | with_reducible refine mv ?_ | with_reducible refine m12 rfl ?_ | with_reducible refine TD.nil ?_ | ((with_reducible first | apply TD.ld | apply TD.ldw); (repeat (focus (show _ = _; first | exact k1 rfl | exact k2 rfl | (simp only [zz, ty_filter_GainRange, e_i, e_iiiii, Nat.reduceAdd, Nat.reduceMul, Nat.reduceLeDiff, tload, rowOf, partT, List.getElem?_map] <;> exact rfl) | exact rfl))); (with_reducible refine TD.here ?_)) | ((with_reducible apply TX.drawn); (focus decide +kernel); (focus (simp only [List.toList_toArray] <;> exact rfl)); (focus exact rfl); (try dsimp only)) | fail)
    obtain ⟨v9, h2, hr⟩ := Option.bind_eq_some_iff.1 hr
    try dsimp only at hr
    first | apply TD.cal (by first | rfl | (simp only [twant, z1, List.getElem?_toArray, Option.bind_some]; done)) rfl goFn25 (filter_turnError_spec h2) rfl rfl rfl | apply TD.calw (by first | rfl | (simp only [twant, z1, List.getElem?_toArray, Option.bind_some]; done)) rfl goFn25 (filter_turnError_spec h2) rfl rfl rfl rfl
    (repeat (focus (show _ = _; first | exact k1 rfl | exact k2 rfl | (simp only [zz, ty_filter_GainRange, e_i, e_iiiii, Nat.reduceAdd, Nat.reduceMul, Nat.reduceLeDiff, shift, kill, killB, frz, frzB, view, tml, tmlc, List.length_set] <;> exact rfl) | exact rfl)))
    with_reducible apply TD.here
    repeat (first | with_reducible refine mv ?_ | with_reducible refine m12 rfl ?_ | with_reducible refine TD.nil ?_ | ((with_reducible apply TX.drawn); (focus decide +kernel); (focus (simp only [List.toList_toArray] <;> exact rfl)); (focus exact rfl); (try dsimp only)) | fail)
    apply TD.bm e_i ([v8, v9] : List Int) (by first | rfl | (simp only [twant, z1, List.getElem?_toArray, Option.bind_some]; done)) rfl (by simp only [zz, ty_filter_GainRange, e_i, e_iiiii, Nat.reduceAdd, Nat.reduceMul, Nat.reduceLeDiff, tslice, tparts]; exact rfl) rfl
    (repeat (focus (show _ = _; first | exact k1 rfl | exact k2 rfl | (simp only [zz, ty_filter_GainRange, e_i, e_iiiii, Nat.reduceAdd, Nat.reduceMul, Nat.reduceLeDiff, tslice, tparts] <;> exact rfl) | exact rfl)))
    with_reducible apply TD.here
    repeat (first | with_reducible refine mv ?_ | with_reducible refine m12 rfl ?_ | with_reducible refine TD.nil ?_ | ((with_reducible apply TX.drawn); (focus decide +kernel); (focus (simp only [List.toList_toArray] <;> exact rfl)); (focus exact rfl); (try dsimp only)) | fail)
    obtain ⟨v10, h3, hr⟩ := Option.bind_eq_some_iff.1 hr
    try dsimp only at hr
    first | apply TD.cal (by first | rfl | (simp only [twant, z1, List.getElem?_toArray, Option.bind_some]; done)) rfl goFn24 (filter_firstError_spec h3) rfl rfl rfl | apply TD.calw (by first | rfl | (simp only [twant, z1, List.getElem?_toArray, Option.bind_some]; done)) rfl goFn24 (filter_firstError_spec h3) rfl rfl rfl rfl
    (repeat (focus (show _ = _; first | exact k1 rfl | exact k2 rfl | (simp only [zz, ty_filter_GainRange, e_i, e_iiiii, Nat.reduceAdd, Nat.reduceMul, Nat.reduceLeDiff, shift, kill, killB, frz, frzB, view, tml, tmlc, List.length_set] <;> exact rfl) | exact rfl)))
    with_reducible apply TD.here
    repeat (first | with_reducible refine mv ?_ | with_reducible refine m12 rfl ?_ | with_reducible refine TO.nil ?_ | ((with_reducible first | apply TO.mv | apply TO.bin); (repeat (focus (show _ = _; first | exact k1 rfl | exact k2 rfl | (simp only [zz, ty_filter_GainRange, e_i, e_iiiii, Nat.reduceAdd, Nat.reduceMul, Nat.reduceLeDiff] <;> exact rfl) | exact rfl))); (with_reducible refine TO.here ?_)) | ((with_reducible apply TX.region); (focus (simp only [List.toList_toArray] <;> exact rfl)); (focus rfl); (try dsimp only)) | with_reducible refine TD.nil ?_ | ((with_reducible first | apply TD.asg); (repeat (focus (show _ = _; first | exact k1 rfl | exact k2 rfl | (simp only [zz, ty_filter_GainRange, e_i, e_iiiii, Nat.reduceAdd, Nat.reduceMul, Nat.reduceLeDiff] <;> exact rfl) | exact rfl))); (with_reducible refine TD.here ?_)) | ((with_reducible apply TX.drawn); (focus decide +kernel); (focus (simp only [List.toList_toArray] <;> exact rfl)); (focus exact rfl); (try dsimp only)) | ((with_reducible apply TX.cond_true); (focus rfl); (focus (first | rfl | (simp only [z1, Bool.not_true, Bool.not_false]; done)))) | ((with_reducible apply TX.cond_false); (focus rfl); (focus (first | rfl | (simp only [z1, Bool.not_true, Bool.not_false]; done)))) | fail)
    rcases Bool.eq_false_or_eq_true ((decide (v10 ≠ 0))) with h4 | h4
    · rw [if_pos h4] at hr
      repeat (first | with_reducible refine mv ?_ | with_reducible refine m12 rfl ?_ | with_reducible refine TO.nil ?_ | ((with_reducible first | apply TO.bld | apply TO.mv | apply TO.sv | apply TO.asg); (repeat (focus (show _ = _; first | exact k1 rfl | exact k2 rfl | (simp only [zz, ty_filter_GainRange, e_i, e_iiiii, Nat.reduceAdd, Nat.reduceMul, Nat.reduceLeDiff, tbuild, tfill, h4] <;> exact rfl) | exact rfl))); (with_reducible refine TO.here ?_)) | ((with_reducible apply TX.region); (focus (simp only [List.toList_toArray] <;> exact rfl)); (focus rfl); (try dsimp only)) | ((with_reducible apply TX.cond_true); (focus rfl); (focus (first | rfl | (simp only [z1, Bool.not_true, Bool.not_false, h4]; done)))) | ((with_reducible apply TX.cond_false); (focus rfl); (focus (first | rfl | (simp only [z1, Bool.not_true, Bool.not_false, h4]; done)))) | fail)
      cases hr
      refine ⟨.inr rfl, _, (by simp only [zy, ty_filter_GainRange, e_i, e_iiiii, tresAll, tres, tload, rowOf, partT, h4]; exact rfl), ?_⟩
      exact Wk.ren [] rfl .nil (by (repeat (first | exact RNs.nil | refine RNs.cons .junk ?_ | refine RNs.cons (.keep rfl rfl) ?_ | refine RNs.cons (.lsl rfl rfl) ?_ | refine RNs.cons (.lsl rfl (by simp only [List.length_set])) ?_ | refine RNs.cons (.lptr rfl) ?_ | refine RNs.cons (.nil rfl) ?_ | refine RNs.cons .nl ?_ | refine RNs.cons (.keep (by simp only [h4]) rfl) ?_ | refine RNs.cons (.tuple' ?_) ?_ | refine RNs.cons (.agg' ?_) ?_)))
    · rw [if_neg (by rw [h4]; exact Bool.false_ne_true)] at hr
      repeat (first | with_reducible refine mv ?_ | with_reducible refine m12 rfl ?_ | with_reducible refine TO.nil ?_ | ((with_reducible first | apply TO.bld | apply TO.al | apply TO.sv | apply TO.mv | apply TO.len); (repeat (focus (show _ = _; first | exact k1 rfl | exact k2 rfl | (simp only [zz, ty_filter_GainRange, e_i, e_iiiii, Nat.reduceAdd, Nat.reduceMul, Nat.reduceLeDiff, tbuild, tfill, tlen, h4] <;> exact rfl) | exact rfl))); (with_reducible refine TO.here ?_)) | ((with_reducible apply TX.region); (focus (simp only [List.toList_toArray] <;> exact rfl)); (focus rfl); (try dsimp only)) | ((with_reducible apply TX.cond_true); (focus rfl); (focus (first | rfl | (simp only [z1, Bool.not_true, Bool.not_false, h4]; done)))) | ((with_reducible apply TX.cond_false); (focus rfl); (focus (first | rfl | (simp only [z1, Bool.not_true, Bool.not_false, h4]; done)))) | fail)
      obtain ⟨v39, h17, hr⟩ := Option.bind_eq_some_iff.1 hr
      refine TX.loopE (step := filter_GainRange_l1 v1 v2 v3 v4) (x := (1048576, 1048576, 0)) h17 (fun (v11, v12, v13) => ⟨.junk :: .junk :: .junk :: .fptr true [.v (.int .i64 v2), .v (.int .i64 v3), .v (.int .i64 v4)] 0 :: .lptr 0 0 0 :: .junk :: .junk :: .lptr 1 0 0 :: .junk :: .junk :: .junk :: .junk :: .junk :: .junk :: .junk :: .junk :: .junk :: .junk :: .junk :: .junk :: .junk :: .junk :: .junk :: .list 5 (v1.map e_iiiii) :: .v (.int .i64 (v1.length : Int)) :: .v (.int .i64 v13) :: .junk :: .junk :: .junk :: .junk :: .junk :: .junk :: .junk :: .junk :: .junk :: .junk :: .junk :: .junk :: .junk :: .junk :: .junk :: .junk :: .junk :: .junk :: .junk :: .junk :: .junk :: .junk :: .junk :: .junk :: .junk :: [], [.var [.v (.int .i64 0), .v (.int .i64 0)], .var [.v (.int .i64 v11), .v (.int .i64 v12)]]⟩) (fun e => match e with | (.inl v25) => (.ret, ⟨.junk :: .junk :: .junk :: .junk :: .lptr 0 0 0 :: .v (.int .i64 v25) :: .junk :: .junk :: .junk :: .junk :: .junk :: .junk :: .junk :: .junk :: .junk :: .junk :: .junk :: .junk :: .junk :: .junk :: .junk :: .junk :: .junk :: .junk :: .junk :: .junk :: .junk :: .junk :: .junk :: .junk :: .junk :: .junk :: .junk :: .junk :: .junk :: .junk :: .junk :: .junk :: .junk :: .junk :: .junk :: .junk :: .junk :: .junk :: .junk :: .junk :: .junk :: .junk :: .junk :: .junk :: .junk :: [], [.var [.v (.int .i64 0), .v (.int .i64 0)]]⟩) | (.inr (v26, v27)) => (.exit 0, ⟨.junk :: .junk :: .junk :: .junk :: .lptr 0 0 0 :: .junk :: .junk :: .lptr 1 0 0 :: .junk :: .junk :: .junk :: .junk :: .junk :: .junk :: .junk :: .junk :: .junk :: .junk :: .junk :: .junk :: .junk :: .junk :: .junk :: .junk :: .junk :: .junk :: .junk :: .junk :: .junk :: .junk :: .junk :: .junk :: .junk :: .junk :: .junk :: .junk :: .junk :: .junk :: .junk :: .junk :: .junk :: .junk :: .junk :: .junk :: .junk :: .junk :: .junk :: .junk :: .junk :: .junk :: .junk :: [], [.var [.v (.int .i64 0), .v (.int .i64 0)], .var [.v (.int .i64 v26), .v (.int .i64 v27)]]⟩)) ?_ ?_ ?_ ?_
      · rintro ⟨v11, v12, v13⟩ v0 hr
        dsimp only [filter_GainRange_l1] at hr
        try dsimp only
        repeat (first | with_reducible refine mv ?_ | with_reducible refine m12 rfl ?_ | with_reducible refine TO.nil ?_ | ((with_reducible first | apply TO.bin); (repeat (focus (show _ = _; first | exact k1 rfl | exact k2 rfl | (simp only [zz, ty_filter_GainRange, e_i, e_iiiii, Nat.reduceAdd, Nat.reduceMul, Nat.reduceLeDiff, h4] <;> exact rfl) | exact rfl))); (with_reducible refine TO.here ?_)) | ((with_reducible apply TX.region); (focus (simp only [List.toList_toArray] <;> exact rfl)); (focus rfl); (try dsimp only)) | ((with_reducible apply TX.cond_true); (focus rfl); (focus (first | rfl | (simp only [z1, Bool.not_true, Bool.not_false, h4]; done)))) | ((with_reducible apply TX.cond_false); (focus rfl); (focus (first | rfl | (simp only [z1, Bool.not_true, Bool.not_false, h4]; done)))) | fail)
        rcases Bool.eq_false_or_eq_true ((decide (v13 < (v1.length : Int)))) with h11 | h11
        · rw [if_pos h11] at hr
          repeat (first | with_reducible refine mv ?_ | with_reducible refine m12 rfl ?_ | with_reducible refine TO.nil ?_ | ((with_reducible apply TX.region); (focus (simp only [List.toList_toArray] <;> exact rfl)); (focus rfl); (try dsimp only)) | ((with_reducible apply TX.cond_true); (focus rfl); (focus (first | rfl | (simp only [z1, Bool.not_true, Bool.not_false, h4, h11]; done)))) | ((with_reducible apply TX.cond_false); (focus rfl); (focus (first | rfl | (simp only [z1, Bool.not_true, Bool.not_false, h4, h11]; done)))) | fail)
          obtain ⟨⟨v28, v29, v30, v31, v32⟩, h12, hr⟩ := Option.bind_eq_some_iff.1 hr
          try dsimp only at hr
          have h12m := tidx_map (f := e_iiiii) h12
          have h12l := getI_lt h12
          try simp only [List.length_set] at h12l
          have h12a := getI_at h12
          repeat (first | with_reducible refine mv ?_ | with_reducible refine m12 rfl ?_ | with_reducible refine TO.nil ?_ | ((with_reducible first | apply TO.ia | apply TO.ld | apply TO.al | apply TO.sv); (repeat (focus (show _ = _; first | exact k1 rfl | exact k2 rfl | (simp only [zz, ty_filter_GainRange, e_i, e_iiiii, Nat.reduceAdd, Nat.reduceMul, Nat.reduceLeDiff, tindexAddr, Nat.zero_add, tload, rowOf, partT, List.getElem?_map, h4, h11, h12m, h12l, h12a] <;> exact rfl) | exact rfl))); (with_reducible refine TO.here ?_)) | ((with_reducible apply TX.region); (focus (simp only [List.toList_toArray] <;> exact rfl)); (focus rfl); (try dsimp only)) | fail)
          obtain ⟨⟨v33, v34, v35⟩, h13, hr⟩ := Option.bind_eq_some_iff.1 hr
          try dsimp only at hr
          apply TO.cal (by first | rfl | (simp only [twant, z1, List.getElem?_toArray, Option.bind_some, h4, h11, h12m, h12l, h12a]; done)) rfl goFn26 (filter_gainOf_spec h13) rfl rfl rfl
          (repeat (focus (show _ = _; first | exact k1 rfl | exact k2 rfl | (simp only [zz, ty_filter_GainRange, e_i, e_iiiii, Nat.reduceAdd, Nat.reduceMul, Nat.reduceLeDiff, shift, kill, killB, frz, frzB, view, tml, tmlc, List.length_set, h4, h11, h12m, h12l, h12a] <;> exact rfl) | exact rfl)))
          with_reducible apply TO.here
          repeat (first | with_reducible refine mv ?_ | with_reducible refine m12 rfl ?_ | with_reducible refine TO.nil ?_ | ((with_reducible first | apply TO.mv | apply TO.ext | apply TO.al | apply TO.sv | apply TO.asg | apply TO.bin); (repeat (focus (show _ = _; first | exact k1 rfl | exact k2 rfl | (simp only [zz, ty_filter_GainRange, e_i, e_iiiii, Nat.reduceAdd, Nat.reduceMul, Nat.reduceLeDiff, h4, h11, h12m, h12l, h12a] <;> exact rfl) | exact rfl))); (with_reducible refine TO.here ?_)) | ((with_reducible apply TX.region); (focus (simp only [List.toList_toArray] <;> exact rfl)); (focus rfl); (try dsimp only)) | ((with_reducible apply TX.cond_true); (focus rfl); (focus (first | rfl | (simp only [z1, Bool.not_true, Bool.not_false, h4, h11, h12m, h12l, h12a]; done)))) | ((with_reducible apply TX.cond_false); (focus rfl); (focus (first | rfl | (simp only [z1, Bool.not_true, Bool.not_false, h4, h11, h12m, h12l, h12a]; done)))) | fail)
          rcases Bool.eq_false_or_eq_true ((decide (v35 ≠ 0))) with h14 | h14
          · rw [if_pos h14] at hr
            repeat (first | with_reducible refine mv ?_ | with_reducible refine m12 rfl ?_ | with_reducible refine TO.nil ?_ | ((with_reducible first | apply TO.bld | apply TO.mv | apply TO.sv | apply TO.asg); (repeat (focus (show _ = _; first | exact k1 rfl | exact k2 rfl | (simp only [zz, ty_filter_GainRange, e_i, e_iiiii, Nat.reduceAdd, Nat.reduceMul, Nat.reduceLeDiff, tbuild, tfill, h4, h11, h12m, h12l, h12a, h14] <;> exact rfl) | exact rfl))); (with_reducible refine TO.here ?_)) | ((with_reducible apply TX.region); (focus (simp only [List.toList_toArray] <;> exact rfl)); (focus rfl); (try dsimp only)) | ((with_reducible apply TX.cond_true); (focus rfl); (focus (first | rfl | (simp only [z1, Bool.not_true, Bool.not_false, h4, h11, h12m, h12l, h12a, h14]; done)))) | ((with_reducible apply TX.cond_false); (focus rfl); (focus (first | rfl | (simp only [z1, Bool.not_true, Bool.not_false, h4, h11, h12m, h12l, h12a, h14]; done)))) | fail)
            cases hr
            refine ⟨rfl, ?_⟩
            exact Wk.ren [some 0] rfl (rv .nil rfl) (by (repeat (first | exact RNs.nil | refine RNs.cons .junk ?_ | refine RNs.cons (.keep rfl rfl) ?_ | refine RNs.cons (.lsl rfl rfl) ?_ | refine RNs.cons (.lsl rfl (by simp only [List.length_set])) ?_ | refine RNs.cons (.lptr rfl) ?_ | refine RNs.cons (.nil rfl) ?_ | refine RNs.cons .nl ?_ | refine RNs.cons (.keep (by simp only [h4, h11, h14]) rfl) ?_ | refine RNs.cons (.tuple' ?_) ?_ | refine RNs.cons (.agg' ?_) ?_)))
          · rw [if_neg (by rw [h14]; exact Bool.false_ne_true)] at hr
            repeat (first | with_reducible refine mv ?_ | with_reducible refine m12 rfl ?_ | with_reducible refine TO.nil ?_ | ((with_reducible first | apply TO.ld); (repeat (focus (show _ = _; first | exact k1 rfl | exact k2 rfl | (simp only [zz, ty_filter_GainRange, e_i, e_iiiii, Nat.reduceAdd, Nat.reduceMul, Nat.reduceLeDiff, tload, rowOf, partT, List.getElem?_map, h4, h11, h12m, h12l, h12a, h14] <;> exact rfl) | exact rfl))); (with_reducible refine TO.here ?_)) | ((with_reducible apply TX.region); (focus (simp only [List.toList_toArray] <;> exact rfl)); (focus rfl); (try dsimp only)) | ((with_reducible apply TX.cond_true); (focus rfl); (focus (first | rfl | (simp only [z1, Bool.not_true, Bool.not_false, h4, h11, h12m, h12l, h12a, h14]; done)))) | ((with_reducible apply TX.cond_false); (focus rfl); (focus (first | rfl | (simp only [z1, Bool.not_true, Bool.not_false, h4, h11, h12m, h12l, h12a, h14]; done)))) | fail)
            obtain ⟨⟨v36, v37, v38⟩, h15, hr⟩ := Option.bind_eq_some_iff.1 hr
            try dsimp only at hr
            apply TO.cal (by first | rfl | (simp only [twant, z1, List.getElem?_toArray, Option.bind_some, h4, h11, h12m, h12l, h12a, h14]; done)) rfl goFn27 (filter_gain_times_spec h15) rfl rfl rfl
            (repeat (focus (show _ = _; first | exact k1 rfl | exact k2 rfl | (simp only [zz, ty_filter_GainRange, e_i, e_iiiii, Nat.reduceAdd, Nat.reduceMul, Nat.reduceLeDiff, shift, kill, killB, frz, frzB, view, tml, tmlc, List.length_set, h4, h11, h12m, h12l, h12a, h14] <;> exact rfl) | exact rfl)))
            with_reducible apply TO.here
            repeat (first | with_reducible refine mv ?_ | with_reducible refine m12 rfl ?_ | with_reducible refine TO.nil ?_ | ((with_reducible first | apply TO.mv | apply TO.ext | apply TO.sv | apply TO.asg | apply TO.bin); (repeat (focus (show _ = _; first | exact k1 rfl | exact k2 rfl | (simp only [zz, ty_filter_GainRange, e_i, e_iiiii, Nat.reduceAdd, Nat.reduceMul, Nat.reduceLeDiff, h4, h11, h12m, h12l, h12a, h14] <;> exact rfl) | exact rfl))); (with_reducible refine TO.here ?_)) | ((with_reducible apply TX.region); (focus (simp only [List.toList_toArray] <;> exact rfl)); (focus rfl); (try dsimp only)) | ((with_reducible apply TX.cond_true); (focus rfl); (focus (first | rfl | (simp only [z1, Bool.not_true, Bool.not_false, h4, h11, h12m, h12l, h12a, h14]; done)))) | ((with_reducible apply TX.cond_false); (focus rfl); (focus (first | rfl | (simp only [z1, Bool.not_true, Bool.not_false, h4, h11, h12m, h12l, h12a, h14]; done)))) | fail)
            rcases Bool.eq_false_or_eq_true ((decide (v38 ≠ 0))) with h16 | h16
            · rw [if_pos h16] at hr
              repeat (first | with_reducible refine mv ?_ | with_reducible refine m12 rfl ?_ | with_reducible refine TO.nil ?_ | ((with_reducible first | apply TO.bld | apply TO.mv | apply TO.sv | apply TO.asg); (repeat (focus (show _ = _; first | exact k1 rfl | exact k2 rfl | (simp only [zz, ty_filter_GainRange, e_i, e_iiiii, Nat.reduceAdd, Nat.reduceMul, Nat.reduceLeDiff, tbuild, tfill, h4, h11, h12m, h12l, h12a, h14, h16] <;> exact rfl) | exact rfl))); (with_reducible refine TO.here ?_)) | ((with_reducible apply TX.region); (focus (simp only [List.toList_toArray] <;> exact rfl)); (focus rfl); (try dsimp only)) | ((with_reducible apply TX.cond_true); (focus rfl); (focus (first | rfl | (simp only [z1, Bool.not_true, Bool.not_false, h4, h11, h12m, h12l, h12a, h14, h16]; done)))) | ((with_reducible apply TX.cond_false); (focus rfl); (focus (first | rfl | (simp only [z1, Bool.not_true, Bool.not_false, h4, h11, h12m, h12l, h12a, h14, h16]; done)))) | fail)
              cases hr
              refine ⟨rfl, ?_⟩
              exact Wk.ren [some 0] rfl (rv .nil rfl) (by (repeat (first | exact RNs.nil | refine RNs.cons .junk ?_ | refine RNs.cons (.keep rfl rfl) ?_ | refine RNs.cons (.lsl rfl rfl) ?_ | refine RNs.cons (.lsl rfl (by simp only [List.length_set])) ?_ | refine RNs.cons (.lptr rfl) ?_ | refine RNs.cons (.nil rfl) ?_ | refine RNs.cons .nl ?_ | refine RNs.cons (.keep (by simp only [h4, h11, h14, h16]) rfl) ?_ | refine RNs.cons (.tuple' ?_) ?_ | refine RNs.cons (.agg' ?_) ?_)))
            · rw [if_neg (by rw [h16]; exact Bool.false_ne_true)] at hr
              repeat (first | with_reducible refine mv ?_ | with_reducible refine m12 rfl ?_ | with_reducible refine TO.nil ?_ | ((with_reducible first | apply TO.bin | apply TO.mv); (repeat (focus (show _ = _; first | exact k1 rfl | exact k2 rfl | (simp only [zz, ty_filter_GainRange, e_i, e_iiiii, Nat.reduceAdd, Nat.reduceMul, Nat.reduceLeDiff, h4, h11, h12m, h12l, h12a, h14, h16] <;> exact rfl) | exact rfl))); (with_reducible refine TO.here ?_)) | ((with_reducible apply TX.region); (focus (simp only [List.toList_toArray] <;> exact rfl)); (focus rfl); (try dsimp only)) | ((with_reducible apply TX.cond_true); (focus rfl); (focus (first | rfl | (simp only [z1, Bool.not_true, Bool.not_false, h4, h11, h12m, h12l, h12a, h14, h16]; done)))) | ((with_reducible apply TX.cond_false); (focus rfl); (focus (first | rfl | (simp only [z1, Bool.not_true, Bool.not_false, h4, h11, h12m, h12l, h12a, h14, h16]; done)))) | fail)
              cases hr
              refine ⟨rfl, ?_⟩
              exact Wk.ren [some 0, some 1] rfl (rv (rv .nil rfl) rfl) (by (repeat (first | exact RNs.nil | refine RNs.cons .junk ?_ | refine RNs.cons (.keep rfl rfl) ?_ | refine RNs.cons (.lsl rfl rfl) ?_ | refine RNs.cons (.lsl rfl (by simp only [List.length_set])) ?_ | refine RNs.cons (.lptr rfl) ?_ | refine RNs.cons (.nil rfl) ?_ | refine RNs.cons .nl ?_ | refine RNs.cons (.keep (by simp only [h4, h11, h14, h16]) rfl) ?_ | refine RNs.cons (.tuple' ?_) ?_ | refine RNs.cons (.agg' ?_) ?_)))
        · rw [if_neg (by rw [h11]; exact Bool.false_ne_true)] at hr
          repeat (first | with_reducible refine mv ?_ | with_reducible refine m12 rfl ?_ | ((with_reducible apply TX.cond_true); (focus rfl); (focus (first | rfl | (simp only [z1, Bool.not_true, Bool.not_false, h4, h11]; done)))) | ((with_reducible apply TX.cond_false); (focus rfl); (focus (first | rfl | (simp only [z1, Bool.not_true, Bool.not_false, h4, h11]; done)))) | fail)
          cases hr
          refine ⟨rfl, ?_⟩
          exact Wk.ren [some 0, some 1] rfl (rv (rv .nil rfl) rfl) (by (repeat (first | exact RNs.nil | refine RNs.cons .junk ?_ | refine RNs.cons (.keep rfl rfl) ?_ | refine RNs.cons (.lsl rfl rfl) ?_ | refine RNs.cons (.lsl rfl (by simp only [List.length_set])) ?_ | refine RNs.cons (.lptr rfl) ?_ | refine RNs.cons (.nil rfl) ?_ | refine RNs.cons .nl ?_ | refine RNs.cons (.keep (by simp only [h4, h11]) rfl) ?_ | refine RNs.cons (.tuple' ?_) ?_ | refine RNs.cons (.agg' ?_) ?_)))
      · intro e h; rcases e with _ | e <;> cases h
      · try dsimp only
        rcases v39 with v40 | ⟨v41, v42⟩
        · try dsimp only at hr
          try dsimp only
          repeat (first | with_reducible refine mv ?_ | with_reducible refine m12 rfl ?_ | fail)
          cases hr
          refine ⟨.inr rfl, _, (by simp only [zy, ty_filter_GainRange, e_i, e_iiiii, tresAll, tres, tload, rowOf, partT, h4]; exact rfl), ?_⟩
          exact Wk.ren [] rfl .nil (by (repeat (first | exact RNs.nil | refine RNs.cons .junk ?_ | refine RNs.cons (.keep rfl rfl) ?_ | refine RNs.cons (.lsl rfl rfl) ?_ | refine RNs.cons (.lsl rfl (by simp only [List.length_set])) ?_ | refine RNs.cons (.lptr rfl) ?_ | refine RNs.cons (.nil rfl) ?_ | refine RNs.cons .nl ?_ | refine RNs.cons (.keep (by simp only [h4]) rfl) ?_ | refine RNs.cons (.tuple' ?_) ?_ | refine RNs.cons (.agg' ?_) ?_)))
        · try dsimp only at hr
          try dsimp only
          repeat (first | with_reducible refine mv ?_ | with_reducible refine m12 rfl ?_ | with_reducible refine TO.nil ?_ | ((with_reducible first | apply TO.ld | apply TO.sv | apply TO.asg); (repeat (focus (show _ = _; first | exact k1 rfl | exact k2 rfl | (simp only [zz, ty_filter_GainRange, e_i, e_iiiii, Nat.reduceAdd, Nat.reduceMul, Nat.reduceLeDiff, tload, rowOf, partT, List.getElem?_map, h4] <;> exact rfl) | exact rfl))); (with_reducible refine TO.here ?_)) | ((with_reducible apply TX.region); (focus (simp only [List.toList_toArray] <;> exact rfl)); (focus rfl); (try dsimp only)) | fail)
          cases hr
          refine ⟨.inr rfl, _, (by simp only [zy, ty_filter_GainRange, e_i, e_iiiii, tresAll, tres, tload, rowOf, partT, h4]; exact rfl), ?_⟩
          exact Wk.ren [] rfl .nil (by (repeat (first | exact RNs.nil | refine RNs.cons .junk ?_ | refine RNs.cons (.keep rfl rfl) ?_ | refine RNs.cons (.lsl rfl rfl) ?_ | refine RNs.cons (.lsl rfl (by simp only [List.length_set])) ?_ | refine RNs.cons (.lptr rfl) ?_ | refine RNs.cons (.nil rfl) ?_ | refine RNs.cons .nl ?_ | refine RNs.cons (.keep (by simp only [h4]) rfl) ?_ | refine RNs.cons (.tuple' ?_) ?_ | refine RNs.cons (.agg' ?_) ?_)))
      · try dsimp only
        exact Wk.ren [some 0, some 1] rfl (rv (rv .nil rfl) rfl) (by (repeat (first | exact RNs.nil | refine RNs.cons .junk ?_ | refine RNs.cons (.keep rfl rfl) ?_ | refine RNs.cons (.lsl rfl rfl) ?_ | refine RNs.cons (.lsl rfl (by simp only [List.length_set])) ?_ | refine RNs.cons (.lptr rfl) ?_ | refine RNs.cons (.nil rfl) ?_ | refine RNs.cons .nl ?_ | refine RNs.cons (.keep (by simp only [h4]) rfl) ?_ | refine RNs.cons (.tuple' ?_) ?_ | refine RNs.cons (.agg' ?_) ?_)))
  rfl

end Go.Rex

namespace Go.Rex
open Go.Proofs
open Go Go.Rex Go.RowKit
set_option maxRecDepth 100000
theorem filter_size_spec {v1 : Int} {v2 : Int} (hr : filter_size v1 = some (v2)) : Spec (lim Try.prog) 21 [.v (.int .i64 v1)] ⟨[.v (.int .i64 v2)], []⟩ := by
  unfold filter_size at hr
  apply Spec.fn Try.func21 rfl
  focus (simp [Try.f21] <;> exact rfl)
  focus
    repeat (first | with_reducible refine mv ?_ | with_reducible refine m12 rfl ?_ | with_reducible refine TO.nil ?_ | ((with_reducible first | apply TO.asg | apply TO.mv); (repeat (focus (show _ = _; first | exact k1 rfl | exact k2 rfl | (simp only [zz, Nat.reduceAdd, Nat.reduceMul, Nat.reduceLeDiff] <;> exact rfl) | exact rfl))); (with_reducible refine TO.here ?_)) | ((with_reducible apply TX.region); (focus (simp only [List.toList_toArray] <;> exact rfl)); (focus rfl); (try dsimp only)) | fail)
    apply TO.pop1 (by first | rfl | (simp only [twant, z1, List.getElem?_toArray, Option.bind_some]; done)) (pop_neg rfl)
    (repeat (focus (show _ = _; first | exact k1 rfl | exact k2 rfl | (simp only [zz, Nat.reduceAdd, Nat.reduceMul, Nat.reduceLeDiff] <;> exact rfl) | exact rfl)))
    with_reducible apply TO.here
    repeat (first | with_reducible refine mv ?_ | with_reducible refine m12 rfl ?_ | with_reducible refine TO.nil ?_ | ((with_reducible apply TX.region); (focus (simp only [List.toList_toArray] <;> exact rfl)); (focus rfl); (try dsimp only)) | fail)
    apply TO.pop1 (by first | rfl | (simp only [twant, z1, List.getElem?_toArray, Option.bind_some]; done)) (pop_max rfl rfl)
    (repeat (focus (show _ = _; first | exact k1 rfl | exact k2 rfl | (simp only [zz, Nat.reduceAdd, Nat.reduceMul, Nat.reduceLeDiff] <;> exact rfl) | exact rfl)))
    with_reducible apply TO.here
    repeat (first | with_reducible refine mv ?_ | with_reducible refine m12 rfl ?_ | with_reducible refine TO.nil ?_ | ((with_reducible first | apply TO.asg); (repeat (focus (show _ = _; first | exact k1 rfl | exact k2 rfl | (simp only [zz, Nat.reduceAdd, Nat.reduceMul, Nat.reduceLeDiff] <;> exact rfl) | exact rfl))); (with_reducible refine TO.here ?_)) | ((with_reducible apply TX.region); (focus (simp only [List.toList_toArray] <;> exact rfl)); (focus rfl); (try dsimp only)) | fail)
    cases hr
    refine ⟨.inr rfl, _, (by simp only [zy, tresAll, tres, tload, rowOf, partT]; exact rfl), ?_⟩
    exact wr [] rfl .nil
  rfl

end Go.Rex

namespace Go.Rex
open Go.Proofs
open Go Go.Rex Go.RowKit
set_option maxRecDepth 100000
theorem filter_divisor_spec {v1 : Int} {v2 : Int} {v3 : Int} (hr : filter_divisor v1 v2 = some (v3)) : Spec (lim Try.prog) 42 [.v (.int .i64 v1), .v (.int .i64 v2)] ⟨[.v (.int .i64 v3)], []⟩ := by
  unfold filter_divisor at hr
  apply Spec.fn Try.func42 rfl
  focus (simp [Try.f42] <;> exact rfl)
  focus
    repeat (first | with_reducible refine mv ?_ | with_reducible refine m12 rfl ?_ | with_reducible refine TO.nil ?_ | ((with_reducible first | apply TO.asg); (repeat (focus (show _ = _; first | exact k1 rfl | exact k2 rfl | (simp only [zz, Nat.reduceAdd, Nat.reduceMul, Nat.reduceLeDiff] <;> exact rfl) | exact rfl))); (with_reducible refine TO.here ?_)) | ((with_reducible apply TX.region); (focus (simp only [List.toList_toArray] <;> exact rfl)); (focus rfl); (try dsimp only)) | fail)
    obtain ⟨v7, h5, hr⟩ := Option.bind_eq_some_iff.1 hr
    try dsimp only at hr
    refine TX.loopE (step := filter_divisor_l1) (x := (v1, v2)) h5 (fun (v4, v5) => ⟨.v (.int .i64 v4) :: .v (.int .i64 v5) :: .junk :: .junk :: .junk :: .junk :: .junk :: .junk :: .junk :: .junk :: .junk :: .junk :: .junk :: [], []⟩) (fun v6 => (.exit 0, ⟨.v (.int .i64 v6) :: .junk :: .junk :: .junk :: .junk :: .junk :: .junk :: .junk :: .junk :: .junk :: .junk :: .junk :: .junk :: [], []⟩)) ?_ ?_ ?_ ?_
    · rintro ⟨v4, v5⟩ v0 hr
      dsimp only [filter_divisor_l1] at hr
      try dsimp only
      repeat (first | with_reducible refine mv ?_ | with_reducible refine m12 rfl ?_ | with_reducible refine TO.nil ?_ | ((with_reducible first | apply TO.mv | apply TO.bin); (repeat (focus (show _ = _; first | exact k1 rfl | exact k2 rfl | (simp only [zz, Nat.reduceAdd, Nat.reduceMul, Nat.reduceLeDiff] <;> exact rfl) | exact rfl))); (with_reducible refine TO.here ?_)) | ((with_reducible apply TX.region); (focus (simp only [List.toList_toArray] <;> exact rfl)); (focus rfl); (try dsimp only)) | ((with_reducible apply TX.cond_true); (focus rfl); (focus (first | rfl | (simp only [z1, Bool.not_true, Bool.not_false]; done)))) | ((with_reducible apply TX.cond_false); (focus rfl); (focus (first | rfl | (simp only [z1, Bool.not_true, Bool.not_false]; done)))) | fail)
      rcases Bool.eq_false_or_eq_true ((decide (v5 ≠ 0))) with h3 | h3
      · rw [if_pos h3] at hr
        repeat (first | with_reducible refine mv ?_ | with_reducible refine m12 rfl ?_ | with_reducible refine TD.nil ?_ | ((with_reducible first | apply TD.mv); (repeat (focus (show _ = _; first | exact k1 rfl | exact k2 rfl | (simp only [zz, Nat.reduceAdd, Nat.reduceMul, Nat.reduceLeDiff, h3] <;> exact rfl) | exact rfl))); (with_reducible refine TD.here ?_)) | ((with_reducible apply TX.drawn); (focus decide +kernel); (focus (simp only [List.toList_toArray] <;> exact rfl)); (focus exact rfl); (try dsimp only)) | ((with_reducible apply TX.cond_true); (focus rfl); (focus (first | rfl | (simp only [z1, Bool.not_true, Bool.not_false, h3]; done)))) | ((with_reducible apply TX.cond_false); (focus rfl); (focus (first | rfl | (simp only [z1, Bool.not_true, Bool.not_false, h3]; done)))) | fail)
        by_cases h4 : v5 = 0
        · rw [if_pos h4] at hr
          cases hr
        · rw [if_neg h4] at hr
          repeat (first | with_reducible refine mv ?_ | with_reducible refine m12 rfl ?_ | with_reducible refine TD.nil ?_ | ((with_reducible first | apply TD.bin | apply TD.asg); (repeat (focus (show _ = _; first | exact k1 rfl | exact k2 rfl | (simp only [zz, Nat.reduceAdd, Nat.reduceMul, Nat.reduceLeDiff, h3, h4] <;> exact rfl) | exact rfl))); (with_reducible refine TD.here ?_)) | ((with_reducible apply TX.drawn); (focus decide +kernel); (focus (simp only [List.toList_toArray] <;> exact rfl)); (focus exact rfl); (try dsimp only)) | fail)
          cases hr
          refine ⟨rfl, ?_⟩
          exact Wk.ren [] rfl .nil (by (repeat (first | exact RNs.nil | refine RNs.cons .junk ?_ | refine RNs.cons (.keep rfl rfl) ?_ | refine RNs.cons (.lsl rfl rfl) ?_ | refine RNs.cons (.lsl rfl (by simp only [List.length_set])) ?_ | refine RNs.cons (.lptr rfl) ?_ | refine RNs.cons (.nil rfl) ?_ | refine RNs.cons .nl ?_ | refine RNs.cons (.keep (by simp only [h3]) rfl) ?_ | refine RNs.cons (.tuple' ?_) ?_ | refine RNs.cons (.agg' ?_) ?_)))
      · rw [if_neg (by rw [h3]; exact Bool.false_ne_true)] at hr
        repeat (first | with_reducible refine mv ?_ | with_reducible refine m12 rfl ?_ | ((with_reducible apply TX.cond_true); (focus rfl); (focus (first | rfl | (simp only [z1, Bool.not_true, Bool.not_false, h3]; done)))) | ((with_reducible apply TX.cond_false); (focus rfl); (focus (first | rfl | (simp only [z1, Bool.not_true, Bool.not_false, h3]; done)))) | fail)
        cases hr
        refine ⟨rfl, ?_⟩
        exact Wk.ren [] rfl .nil (by (repeat (first | exact RNs.nil | refine RNs.cons .junk ?_ | refine RNs.cons (.keep rfl rfl) ?_ | refine RNs.cons (.lsl rfl rfl) ?_ | refine RNs.cons (.lsl rfl (by simp only [List.length_set])) ?_ | refine RNs.cons (.lptr rfl) ?_ | refine RNs.cons (.nil rfl) ?_ | refine RNs.cons .nl ?_ | refine RNs.cons (.keep (by simp only [h3]) rfl) ?_ | refine RNs.cons (.tuple' ?_) ?_ | refine RNs.cons (.agg' ?_) ?_)))
    · intro e h; cases h
    · try dsimp only
      repeat (first | with_reducible refine mv ?_ | with_reducible refine m12 rfl ?_ | with_reducible refine TO.nil ?_ | ((with_reducible first | apply TO.mv); (repeat (focus (show _ = _; first | exact k1 rfl | exact k2 rfl | (simp only [zz, Nat.reduceAdd, Nat.reduceMul, Nat.reduceLeDiff] <;> exact rfl) | exact rfl))); (with_reducible refine TO.here ?_)) | ((with_reducible apply TX.region); (focus (simp only [List.toList_toArray] <;> exact rfl)); (focus rfl); (try dsimp only)) | fail)
      obtain ⟨v8, h6, hr⟩ := Option.bind_eq_some_iff.1 hr
      try dsimp only at hr
      apply TO.cal (by first | rfl | (simp only [twant, z1, List.getElem?_toArray, Option.bind_some]; done)) rfl goFn21 (filter_size_spec h6) rfl rfl rfl
      (repeat (focus (show _ = _; first | exact k1 rfl | exact k2 rfl | (simp only [zz, Nat.reduceAdd, Nat.reduceMul, Nat.reduceLeDiff, shift, kill, killB, frz, frzB, view, tml, tmlc, List.length_set] <;> exact rfl) | exact rfl)))
      with_reducible apply TO.here
      repeat (first | with_reducible refine mv ?_ | with_reducible refine m12 rfl ?_ | with_reducible refine TO.nil ?_ | ((with_reducible first | apply TO.asg); (repeat (focus (show _ = _; first | exact k1 rfl | exact k2 rfl | (simp only [zz, Nat.reduceAdd, Nat.reduceMul, Nat.reduceLeDiff] <;> exact rfl) | exact rfl))); (with_reducible refine TO.here ?_)) | ((with_reducible apply TX.region); (focus (simp only [List.toList_toArray] <;> exact rfl)); (focus rfl); (try dsimp only)) | fail)
      cases hr
      refine ⟨.inr rfl, _, (by simp only [zy, tresAll, tres, tload, rowOf, partT]; exact rfl), ?_⟩
      exact wr [] rfl .nil
    · try dsimp only
      exact wr [] rfl .nil
  rfl

end Go.Rex

namespace Go.Rex
open Go.Proofs
open Go Go.Rex Go.RowKit
set_option maxRecDepth 100000
def ty_filter_lowest := an @ag49 <| an @cs49 <| an @ok49 <| an @st49 <| @zc49
theorem filter_lowest_spec {v1 : Int} {v2 : Int} {v3 : Int} {v4 : Int} (hr : filter_lowest v1 v2 = some (v3, v4)) : Spec (lim Try.prog) 28 [.v (.int .i64 v1), .v (.int .i64 v2)] ⟨[.agg [.v (.int .i64 v3), .v (.int .i64 v4)]], []⟩ := by
  unfold filter_lowest at hr
  apply Spec.fn Try.func28 rfl
  focus (simp [Try.f28] <;> exact rfl)
  focus
    repeat (first | with_reducible refine mv ?_ | with_reducible refine m12 rfl ?_ | with_reducible refine TO.nil ?_ | ((with_reducible first | apply TO.al | apply TO.mv | apply TO.bin); (repeat (focus (show _ = _; first | exact k1 rfl | exact k2 rfl | (simp only [zz, ty_filter_lowest, Nat.reduceAdd, Nat.reduceMul, Nat.reduceLeDiff] <;> exact rfl) | exact rfl))); (with_reducible refine TO.here ?_)) | ((with_reducible apply TX.region); (focus (simp only [List.toList_toArray] <;> exact rfl)); (focus rfl); (try dsimp only)) | ((with_reducible apply TX.cond_true); (focus rfl); (focus (first | rfl | (simp only [z1, Bool.not_true, Bool.not_false]; done)))) | ((with_reducible apply TX.cond_false); (focus rfl); (focus (first | rfl | (simp only [z1, Bool.not_true, Bool.not_false]; done)))) | fail)
    rcases Bool.eq_false_or_eq_true ((decide (v2 < 0))) with h1 | h1
    · rw [if_pos h1] at hr
      repeat (first | with_reducible refine mv ?_ | with_reducible refine m12 rfl ?_ | with_reducible refine TO.nil ?_ | ((with_reducible first | apply TO.mv); (repeat (focus (show _ = _; first | exact k1 rfl | exact k2 rfl | (simp only [zz, ty_filter_lowest, Nat.reduceAdd, Nat.reduceMul, Nat.reduceLeDiff, h1] <;> exact rfl) | exact rfl))); (with_reducible refine TO.here ?_)) | ((with_reducible apply TX.region); (focus (simp only [List.toList_toArray] <;> exact rfl)); (focus rfl); (try dsimp only)) | ((with_reducible apply TX.cond_true); (focus rfl); (focus (first | rfl | (simp only [z1, Bool.not_true, Bool.not_false, h1]; done)))) | ((with_reducible apply TX.cond_false); (focus rfl); (focus (first | rfl | (simp only [z1, Bool.not_true, Bool.not_false, h1]; done)))) | fail)
      apply TO.pop1 (by first | rfl | (simp only [twant, z1, List.getElem?_toArray, Option.bind_some, h1]; done)) (pop_neg rfl)
      (repeat (focus (show _ = _; first | exact k1 rfl | exact k2 rfl | (simp only [zz, ty_filter_lowest, Nat.reduceAdd, Nat.reduceMul, Nat.reduceLeDiff, h1] <;> exact rfl) | exact rfl)))
      with_reducible apply TO.here
      repeat (first | with_reducible refine mv ?_ | with_reducible refine m12 rfl ?_ | with_reducible refine TO.nil ?_ | ((with_reducible first | apply TO.mv); (repeat (focus (show _ = _; first | exact k1 rfl | exact k2 rfl | (simp only [zz, ty_filter_lowest, Nat.reduceAdd, Nat.reduceMul, Nat.reduceLeDiff, h1] <;> exact rfl) | exact rfl))); (with_reducible refine TO.here ?_)) | ((with_reducible apply TX.region); (focus (simp only [List.toList_toArray] <;> exact rfl)); (focus rfl); (try dsimp only)) | fail)
      apply TO.pop1 (by first | rfl | (simp only [twant, z1, List.getElem?_toArray, Option.bind_some, h1]; done)) (pop_neg rfl)
      (repeat (focus (show _ = _; first | exact k1 rfl | exact k2 rfl | (simp only [zz, ty_filter_lowest, Nat.reduceAdd, Nat.reduceMul, Nat.reduceLeDiff, h1] <;> exact rfl) | exact rfl)))
      with_reducible apply TO.here
      repeat (first | with_reducible refine mv ?_ | with_reducible refine m12 rfl ?_ | with_reducible refine TO.nil ?_ | ((with_reducible first | apply TO.asg | apply TO.mv); (repeat (focus (show _ = _; first | exact k1 rfl | exact k2 rfl | (simp only [zz, ty_filter_lowest, Nat.reduceAdd, Nat.reduceMul, Nat.reduceLeDiff, h1] <;> exact rfl) | exact rfl))); (with_reducible refine TO.here ?_)) | ((with_reducible apply TX.region); (focus (simp only [List.toList_toArray] <;> exact rfl)); (focus rfl); (try dsimp only)) | fail)
      obtain ⟨v5, h2, hr⟩ := Option.bind_eq_some_iff.1 hr
      try dsimp only at hr
      apply TO.cal (by first | rfl | (simp only [twant, z1, List.getElem?_toArray, Option.bind_some, h1]; done)) rfl goFn42 (filter_divisor_spec h2) rfl rfl rfl
      (repeat (focus (show _ = _; first | exact k1 rfl | exact k2 rfl | (simp only [zz, ty_filter_lowest, Nat.reduceAdd, Nat.reduceMul, Nat.reduceLeDiff, shift, kill, killB, frz, frzB, view, tml, tmlc, List.length_set, h1] <;> exact rfl) | exact rfl)))
      with_reducible apply TO.here
      repeat (first | with_reducible refine mv ?_ | with_reducible refine m12 rfl ?_ | with_reducible refine TO.nil ?_ | ((with_reducible first | apply TO.asg); (repeat (focus (show _ = _; first | exact k1 rfl | exact k2 rfl | (simp only [zz, ty_filter_lowest, Nat.reduceAdd, Nat.reduceMul, Nat.reduceLeDiff, h1] <;> exact rfl) | exact rfl))); (with_reducible refine TO.here ?_)) | ((with_reducible apply TX.region); (focus (simp only [List.toList_toArray] <;> exact rfl)); (focus rfl); (try dsimp only)) | with_reducible refine TD.nil ?_ | ((with_reducible first | apply TD.mv); (repeat (focus (show _ = _; first | exact k1 rfl | exact k2 rfl | (simp only [zz, ty_filter_lowest, Nat.reduceAdd, Nat.reduceMul, Nat.reduceLeDiff, h1] <;> exact rfl) | exact rfl))); (with_reducible refine TD.here ?_)) | ((with_reducible apply TX.drawn); (focus decide +kernel); (focus (simp only [List.toList_toArray] <;> exact rfl)); (focus exact rfl); (try dsimp only)) | fail)
      by_cases h3 : v5 = 0
      · rw [if_pos h3] at hr
        cases hr
      · rw [if_neg h3] at hr
        repeat (first | with_reducible refine mv ?_ | with_reducible refine m12 rfl ?_ | with_reducible refine TD.nil ?_ | ((with_reducible first | apply TD.bin | apply TD.mv | apply TD.bld | apply TD.sv); (repeat (focus (show _ = _; first | exact k1 rfl | exact k2 rfl | (simp only [zz, ty_filter_lowest, Nat.reduceAdd, Nat.reduceMul, Nat.reduceLeDiff, tbuild, tfill, h1, h3] <;> exact rfl) | exact rfl))); (with_reducible refine TD.here ?_)) | ((with_reducible apply TX.drawn); (focus decide +kernel); (focus (simp only [List.toList_toArray] <;> exact rfl)); (focus exact rfl); (try dsimp only)) | fail)
        cases hr
        refine ⟨.inr rfl, _, (by simp only [zy, ty_filter_lowest, tresAll, tres, tload, rowOf, partT, h1, h3]; exact rfl), ?_⟩
        exact Wk.ren [] rfl .nil (by (repeat (first | exact RNs.nil | refine RNs.cons .junk ?_ | refine RNs.cons (.keep rfl rfl) ?_ | refine RNs.cons (.lsl rfl rfl) ?_ | refine RNs.cons (.lsl rfl (by simp only [List.length_set])) ?_ | refine RNs.cons (.lptr rfl) ?_ | refine RNs.cons (.nil rfl) ?_ | refine RNs.cons .nl ?_ | refine RNs.cons (.keep (by simp only [h1]) rfl) ?_ | refine RNs.cons (.tuple' ?_) ?_ | refine RNs.cons (.agg' ?_) ?_)))
    · rw [if_neg (by rw [h1]; exact Bool.false_ne_true)] at hr
      repeat (first | with_reducible refine mv ?_ | with_reducible refine m12 rfl ?_ | with_reducible refine TO.nil ?_ | ((with_reducible first | apply TO.mv); (repeat (focus (show _ = _; first | exact k1 rfl | exact k2 rfl | (simp only [zz, ty_filter_lowest, Nat.reduceAdd, Nat.reduceMul, Nat.reduceLeDiff, h1] <;> exact rfl) | exact rfl))); (with_reducible refine TO.here ?_)) | ((with_reducible apply TX.region); (focus (simp only [List.toList_toArray] <;> exact rfl)); (focus rfl); (try dsimp only)) | ((with_reducible apply TX.cond_true); (focus rfl); (focus (first | rfl | (simp only [z1, Bool.not_true, Bool.not_false, h1]; done)))) | ((with_reducible apply TX.cond_false); (focus rfl); (focus (first | rfl | (simp only [z1, Bool.not_true, Bool.not_false, h1]; done)))) | fail)
      obtain ⟨v6, h4, hr⟩ := Option.bind_eq_some_iff.1 hr
      try dsimp only at hr
      apply TO.cal (by first | rfl | (simp only [twant, z1, List.getElem?_toArray, Option.bind_some, h1]; done)) rfl goFn42 (filter_divisor_spec h4) rfl rfl rfl
      (repeat (focus (show _ = _; first | exact k1 rfl | exact k2 rfl | (simp only [zz, ty_filter_lowest, Nat.reduceAdd, Nat.reduceMul, Nat.reduceLeDiff, shift, kill, killB, frz, frzB, view, tml, tmlc, List.length_set, h1] <;> exact rfl) | exact rfl)))
      with_reducible apply TO.here
      repeat (first | with_reducible refine mv ?_ | with_reducible refine m12 rfl ?_ | with_reducible refine TO.nil ?_ | ((with_reducible first | apply TO.asg); (repeat (focus (show _ = _; first | exact k1 rfl | exact k2 rfl | (simp only [zz, ty_filter_lowest, Nat.reduceAdd, Nat.reduceMul, Nat.reduceLeDiff, h1] <;> exact rfl) | exact rfl))); (with_reducible refine TO.here ?_)) | ((with_reducible apply TX.region); (focus (simp only [List.toList_toArray] <;> exact rfl)); (focus rfl); (try dsimp only)) | with_reducible refine TD.nil ?_ | ((with_reducible first | apply TD.mv); (repeat (focus (show _ = _; first | exact k1 rfl | exact k2 rfl | (simp only [zz, ty_filter_lowest, Nat.reduceAdd, Nat.reduceMul, Nat.reduceLeDiff, h1] <;> exact rfl) | exact rfl))); (with_reducible refine TD.here ?_)) | ((with_reducible apply TX.drawn); (focus decide +kernel); (focus (simp only [List.toList_toArray] <;> exact rfl)); (focus exact rfl); (try dsimp only)) | fail)
      by_cases h5 : v6 = 0
      · rw [if_pos h5] at hr
        cases hr
      · rw [if_neg h5] at hr
        repeat (first | with_reducible refine mv ?_ | with_reducible refine m12 rfl ?_ | with_reducible refine TD.nil ?_ | ((with_reducible first | apply TD.bin | apply TD.mv | apply TD.bld | apply TD.sv); (repeat (focus (show _ = _; first | exact k1 rfl | exact k2 rfl | (simp only [zz, ty_filter_lowest, Nat.reduceAdd, Nat.reduceMul, Nat.reduceLeDiff, tbuild, tfill, h1, h5] <;> exact rfl) | exact rfl))); (with_reducible refine TD.here ?_)) | ((with_reducible apply TX.drawn); (focus decide +kernel); (focus (simp only [List.toList_toArray] <;> exact rfl)); (focus exact rfl); (try dsimp only)) | fail)
        cases hr
        refine ⟨.inr rfl, _, (by simp only [zy, ty_filter_lowest, tresAll, tres, tload, rowOf, partT, h1, h5]; exact rfl), ?_⟩
        exact Wk.ren [] rfl .nil (by (repeat (first | exact RNs.nil | refine RNs.cons .junk ?_ | refine RNs.cons (.keep rfl rfl) ?_ | refine RNs.cons (.lsl rfl rfl) ?_ | refine RNs.cons (.lsl rfl (by simp only [List.length_set])) ?_ | refine RNs.cons (.lptr rfl) ?_ | refine RNs.cons (.nil rfl) ?_ | refine RNs.cons .nl ?_ | refine RNs.cons (.keep (by simp only [h1]) rfl) ?_ | refine RNs.cons (.tuple' ?_) ?_ | refine RNs.cons (.agg' ?_) ?_)))
  rfl

end Go.Rex

namespace Go.Rex
open Go.Proofs
open Go Go.Rex Go.RowKit
set_option maxRecDepth 100000
def ty_filter_GainSquare := an @ag3 <| an @ag31 <| an @ag43 <| an @ag49 <| an @cs31 <| an @cs32 <| an @cs43 <| an @cs49 <| an @cs66 <| an @fd49_0 <| an @fd49_1 <| an @fd66_0 <| an @fd66_1 <| an @ok31 <| an @ok43 <| an @ok49 <| an @ok66 <| an @so83 <| an @st49 <| an @zc32 <| an @zc49 <| @zc66
theorem filter_GainSquare_spec {v1 : Int} {v2 : Int} {v3 : Int} {v4 : Int} {v5 : Int} {v6 : Int} {v7 : Int} {v8 : Int} {v9 : Int} {v10 : Int} {v11 : Int} (hr : filter_GainSquare v1 v2 v3 v4 v5 v6 v7 v8 = some (v9, v10, v11)) : Spec (lim Try.prog) 13 [.agg [.v (.int .i64 v1), .v (.int .i64 v2), .v (.int .i64 v3), .v (.int .i64 v4), .v (.int .i64 v5)], .agg [.v (.int .i64 v6), .v (.int .i64 v7), .v (.int .i64 v8)]] ⟨[.tuple [.agg [.v (.int .i64 v9), .v (.int .i64 v10)], .v (.int .i64 v11)]], []⟩ := by
  unfold filter_GainSquare at hr
  apply Spec.fn Try.func13 rfl
  focus (simp [Try.f13] <;> exact rfl)
  focus
    repeat (first | with_reducible refine mv ?_ | with_reducible refine m12 rfl ?_ | with_reducible refine TO.nil ?_ | ((with_reducible first | apply TO.bf | apply TO.al | apply TO.asg); (repeat (focus (show _ = _; first | exact k1 rfl | exact k2 rfl | (simp only [zz, ty_filter_GainSquare, e_i, Nat.reduceAdd, Nat.reduceMul, Nat.reduceLeDiff] <;> exact rfl) | exact rfl))); (with_reducible refine TO.here ?_)) | ((with_reducible apply TX.region); (focus (simp only [List.toList_toArray] <;> exact rfl)); (focus rfl); (try dsimp only)) | with_reducible refine TD.nil ?_ | ((with_reducible first | apply TD.ld | apply TD.ldw); (repeat (focus (show _ = _; first | exact k1 rfl | exact k2 rfl | (simp only [zz, ty_filter_GainSquare, e_i, Nat.reduceAdd, Nat.reduceMul, Nat.reduceLeDiff, tload, rowOf, partT, List.getElem?_map] <;> exact rfl) | exact rfl))); (with_reducible refine TD.here ?_)) | ((with_reducible apply TX.drawn); (focus decide +kernel); (focus (simp only [List.toList_toArray] <;> exact rfl)); (focus exact rfl); (try dsimp only)) | fail)
    obtain ⟨v12, h1, hr⟩ := Option.bind_eq_some_iff.1 hr
    try dsimp only at hr
    first | apply TD.cal (by first | rfl | (simp only [twant, z1, List.getElem?_toArray, Option.bind_some]; done)) rfl goFn18 (filter_CheckSection_spec h1) rfl rfl rfl | apply TD.calw (by first | rfl | (simp only [twant, z1, List.getElem?_toArray, Option.bind_some]; done)) rfl goFn18 (filter_CheckSection_spec h1) rfl rfl rfl rfl
    (repeat (focus (show _ = _; first | exact k1 rfl | exact k2 rfl | (simp only [zz, ty_filter_GainSquare, e_i, Nat.reduceAdd, Nat.reduceMul, Nat.reduceLeDiff, shift, kill, killB, frz, frzB, view, tml, tmlc, List.length_set] <;> exact rfl) | exact rfl)))
    with_reducible apply TD.here
    repeat (first | with_reducible refine mv ?_ | with_reducible refine m12 rfl ?_ | with_reducible refine TD.nil ?_ | ((with_reducible first | apply TD.ld | apply TD.ldw); (repeat (focus (show _ = _; first | exact k1 rfl | exact k2 rfl | (simp only [zz, ty_filter_GainSquare, e_i, Nat.reduceAdd, Nat.reduceMul, Nat.reduceLeDiff, tload, rowOf, partT, List.getElem?_map] <;> exact rfl) | exact rfl))); (with_reducible refine TD.here ?_)) | ((with_reducible apply TX.drawn); (focus decide +kernel); (focus (simp only [List.toList_toArray] <;> exact rfl)); (focus exact rfl); (try dsimp only)) | fail)
    obtain ⟨v13, h2, hr⟩ := Option.bind_eq_some_iff.1 hr
    try dsimp only at hr
    first | apply TD.cal (by first | rfl | (simp only [twant, z1, List.getElem?_toArray, Option.bind_some]; done)) rfl goFn25 (filter_turnError_spec h2) rfl rfl rfl | apply TD.calw (by first | rfl | (simp only [twant, z1, List.getElem?_toArray, Option.bind_some]; done)) rfl goFn25 (filter_turnError_spec h2) rfl rfl rfl rfl
    (repeat (focus (show _ = _; first | exact k1 rfl | exact k2 rfl | (simp only [zz, ty_filter_GainSquare, e_i, Nat.reduceAdd, Nat.reduceMul, Nat.reduceLeDiff, shift, kill, killB, frz, frzB, view, tml, tmlc, List.length_set] <;> exact rfl) | exact rfl)))
    with_reducible apply TD.here
    repeat (first | with_reducible refine mv ?_ | with_reducible refine m12 rfl ?_ | with_reducible refine TD.nil ?_ | ((with_reducible apply TX.drawn); (focus decide +kernel); (focus (simp only [List.toList_toArray] <;> exact rfl)); (focus exact rfl); (try dsimp only)) | fail)
    apply TD.bm e_i ([v12, v13] : List Int) (by first | rfl | (simp only [twant, z1, List.getElem?_toArray, Option.bind_some]; done)) rfl (by simp only [zz, ty_filter_GainSquare, e_i, Nat.reduceAdd, Nat.reduceMul, Nat.reduceLeDiff, tslice, tparts]; exact rfl) rfl
    (repeat (focus (show _ = _; first | exact k1 rfl | exact k2 rfl | (simp only [zz, ty_filter_GainSquare, e_i, Nat.reduceAdd, Nat.reduceMul, Nat.reduceLeDiff, tslice, tparts] <;> exact rfl) | exact rfl)))
    with_reducible apply TD.here
    repeat (first | with_reducible refine mv ?_ | with_reducible refine m12 rfl ?_ | with_reducible refine TD.nil ?_ | ((with_reducible apply TX.drawn); (focus decide +kernel); (focus (simp only [List.toList_toArray] <;> exact rfl)); (focus exact rfl); (try dsimp only)) | fail)
    obtain ⟨v14, h3, hr⟩ := Option.bind_eq_some_iff.1 hr
    try dsimp only at hr
    first | apply TD.cal (by first | rfl | (simp only [twant, z1, List.getElem?_toArray, Option.bind_some]; done)) rfl goFn24 (filter_firstError_spec h3) rfl rfl rfl | apply TD.calw (by first | rfl | (simp only [twant, z1, List.getElem?_toArray, Option.bind_some]; done)) rfl goFn24 (filter_firstError_spec h3) rfl rfl rfl rfl
    (repeat (focus (show _ = _; first | exact k1 rfl | exact k2 rfl | (simp only [zz, ty_filter_GainSquare, e_i, Nat.reduceAdd, Nat.reduceMul, Nat.reduceLeDiff, shift, kill, killB, frz, frzB, view, tml, tmlc, List.length_set] <;> exact rfl) | exact rfl)))
    with_reducible apply TD.here
    repeat (first | with_reducible refine mv ?_ | with_reducible refine m12 rfl ?_ | with_reducible refine TO.nil ?_ | ((with_reducible first | apply TO.mv | apply TO.bin); (repeat (focus (show _ = _; first | exact k1 rfl | exact k2 rfl | (simp only [zz, ty_filter_GainSquare, e_i, Nat.reduceAdd, Nat.reduceMul, Nat.reduceLeDiff] <;> exact rfl) | exact rfl))); (with_reducible refine TO.here ?_)) | ((with_reducible apply TX.region); (focus (simp only [List.toList_toArray] <;> exact rfl)); (focus rfl); (try dsimp only)) | with_reducible refine TD.nil ?_ | ((with_reducible first | apply TD.asg); (repeat (focus (show _ = _; first | exact k1 rfl | exact k2 rfl | (simp only [zz, ty_filter_GainSquare, e_i, Nat.reduceAdd, Nat.reduceMul, Nat.reduceLeDiff] <;> exact rfl) | exact rfl))); (with_reducible refine TD.here ?_)) | ((with_reducible apply TX.drawn); (focus decide +kernel); (focus (simp only [List.toList_toArray] <;> exact rfl)); (focus exact rfl); (try dsimp only)) | ((with_reducible apply TX.cond_true); (focus rfl); (focus (first | rfl | (simp only [z1, Bool.not_true, Bool.not_false]; done)))) | ((with_reducible apply TX.cond_false); (focus rfl); (focus (first | rfl | (simp only [z1, Bool.not_true, Bool.not_false]; done)))) | fail)
    rcases Bool.eq_false_or_eq_true ((decide (v14 ≠ 0))) with h4 | h4
    · rw [if_pos h4] at hr
      repeat (first | with_reducible refine mv ?_ | with_reducible refine m12 rfl ?_ | with_reducible refine TO.nil ?_ | ((with_reducible first | apply TO.bld | apply TO.mv | apply TO.sv | apply TO.asg); (repeat (focus (show _ = _; first | exact k1 rfl | exact k2 rfl | (simp only [zz, ty_filter_GainSquare, e_i, Nat.reduceAdd, Nat.reduceMul, Nat.reduceLeDiff, tbuild, tfill, h4] <;> exact rfl) | exact rfl))); (with_reducible refine TO.here ?_)) | ((with_reducible apply TX.region); (focus (simp only [List.toList_toArray] <;> exact rfl)); (focus rfl); (try dsimp only)) | ((with_reducible apply TX.cond_true); (focus rfl); (focus (first | rfl | (simp only [z1, Bool.not_true, Bool.not_false, h4]; done)))) | ((with_reducible apply TX.cond_false); (focus rfl); (focus (first | rfl | (simp only [z1, Bool.not_true, Bool.not_false, h4]; done)))) | fail)
      cases hr
      refine ⟨.inr rfl, _, (by simp only [zy, ty_filter_GainSquare, e_i, tresAll, tres, tload, rowOf, partT, h4]; exact rfl), ?_⟩
      exact Wk.ren [] rfl .nil (by (repeat (first | exact RNs.nil | refine RNs.cons .junk ?_ | refine RNs.cons (.keep rfl rfl) ?_ | refine RNs.cons (.lsl rfl rfl) ?_ | refine RNs.cons (.lsl rfl (by simp only [List.length_set])) ?_ | refine RNs.cons (.lptr rfl) ?_ | refine RNs.cons (.nil rfl) ?_ | refine RNs.cons .nl ?_ | refine RNs.cons (.keep (by simp only [h4]) rfl) ?_ | refine RNs.cons (.tuple' ?_) ?_ | refine RNs.cons (.agg' ?_) ?_)))
    · rw [if_neg (by rw [h4]; exact Bool.false_ne_true)] at hr
      repeat (first | with_reducible refine mv ?_ | with_reducible refine m12 rfl ?_ | with_reducible refine TO.nil ?_ | ((with_reducible first | apply TO.ld); (repeat (focus (show _ = _; first | exact k1 rfl | exact k2 rfl | (simp only [zz, ty_filter_GainSquare, e_i, Nat.reduceAdd, Nat.reduceMul, Nat.reduceLeDiff, tload, rowOf, partT, List.getElem?_map, h4] <;> exact rfl) | exact rfl))); (with_reducible refine TO.here ?_)) | ((with_reducible apply TX.region); (focus (simp only [List.toList_toArray] <;> exact rfl)); (focus rfl); (try dsimp only)) | ((with_reducible apply TX.cond_true); (focus rfl); (focus (first | rfl | (simp only [z1, Bool.not_true, Bool.not_false, h4]; done)))) | ((with_reducible apply TX.cond_false); (focus rfl); (focus (first | rfl | (simp only [z1, Bool.not_true, Bool.not_false, h4]; done)))) | fail)
      obtain ⟨⟨v15, v16, v17⟩, h5, hr⟩ := Option.bind_eq_some_iff.1 hr
      try dsimp only at hr
      apply TO.cal (by first | rfl | (simp only [twant, z1, List.getElem?_toArray, Option.bind_some, h4]; done)) rfl goFn26 (filter_gainOf_spec h5) rfl rfl rfl
      (repeat (focus (show _ = _; first | exact k1 rfl | exact k2 rfl | (simp only [zz, ty_filter_GainSquare, e_i, Nat.reduceAdd, Nat.reduceMul, Nat.reduceLeDiff, shift, kill, killB, frz, frzB, view, tml, tmlc, List.length_set, h4] <;> exact rfl) | exact rfl)))
      with_reducible apply TO.here
      repeat (first | with_reducible refine mv ?_ | with_reducible refine m12 rfl ?_ | with_reducible refine TO.nil ?_ | ((with_reducible first | apply TO.mv | apply TO.ext | apply TO.al | apply TO.sv | apply TO.asg | apply TO.bin); (repeat (focus (show _ = _; first | exact k1 rfl | exact k2 rfl | (simp only [zz, ty_filter_GainSquare, e_i, Nat.reduceAdd, Nat.reduceMul, Nat.reduceLeDiff, h4] <;> exact rfl) | exact rfl))); (with_reducible refine TO.here ?_)) | ((with_reducible apply TX.region); (focus (simp only [List.toList_toArray] <;> exact rfl)); (focus rfl); (try dsimp only)) | ((with_reducible apply TX.cond_true); (focus rfl); (focus (first | rfl | (simp only [z1, Bool.not_true, Bool.not_false, h4]; done)))) | ((with_reducible apply TX.cond_false); (focus rfl); (focus (first | rfl | (simp only [z1, Bool.not_true, Bool.not_false, h4]; done)))) | fail)
      rcases Bool.eq_false_or_eq_true ((decide (v17 ≠ 0))) with h6 | h6
      · rw [if_pos h6] at hr
        repeat (first | with_reducible refine mv ?_ | with_reducible refine m12 rfl ?_ | with_reducible refine TO.nil ?_ | ((with_reducible first | apply TO.bld | apply TO.mv | apply TO.sv | apply TO.asg); (repeat (focus (show _ = _; first | exact k1 rfl | exact k2 rfl | (simp only [zz, ty_filter_GainSquare, e_i, Nat.reduceAdd, Nat.reduceMul, Nat.reduceLeDiff, tbuild, tfill, h4, h6] <;> exact rfl) | exact rfl))); (with_reducible refine TO.here ?_)) | ((with_reducible apply TX.region); (focus (simp only [List.toList_toArray] <;> exact rfl)); (focus rfl); (try dsimp only)) | ((with_reducible apply TX.cond_true); (focus rfl); (focus (first | rfl | (simp only [z1, Bool.not_true, Bool.not_false, h4, h6]; done)))) | ((with_reducible apply TX.cond_false); (focus rfl); (focus (first | rfl | (simp only [z1, Bool.not_true, Bool.not_false, h4, h6]; done)))) | fail)
        cases hr
        refine ⟨.inr rfl, _, (by simp only [zy, ty_filter_GainSquare, e_i, tresAll, tres, tload, rowOf, partT, h4, h6]; exact rfl), ?_⟩
        exact Wk.ren [] rfl .nil (by (repeat (first | exact RNs.nil | refine RNs.cons .junk ?_ | refine RNs.cons (.keep rfl rfl) ?_ | refine RNs.cons (.lsl rfl rfl) ?_ | refine RNs.cons (.lsl rfl (by simp only [List.length_set])) ?_ | refine RNs.cons (.lptr rfl) ?_ | refine RNs.cons (.nil rfl) ?_ | refine RNs.cons .nl ?_ | refine RNs.cons (.keep (by simp only [h4, h6]) rfl) ?_ | refine RNs.cons (.tuple' ?_) ?_ | refine RNs.cons (.agg' ?_) ?_)))
      · rw [if_neg (by rw [h6]; exact Bool.false_ne_true)] at hr
        repeat (first | with_reducible refine mv ?_ | with_reducible refine m12 rfl ?_ | with_reducible refine TO.nil ?_ | ((with_reducible first | apply TO.fa | apply TO.ld); (repeat (focus (show _ = _; first | exact k1 rfl | exact k2 rfl | (simp only [zz, ty_filter_GainSquare, e_i, Nat.reduceAdd, Nat.reduceMul, Nat.reduceLeDiff, tfieldAddr, tload, rowOf, partT, List.getElem?_map, h4, h6] <;> exact rfl) | exact rfl))); (with_reducible refine TO.here ?_)) | ((with_reducible apply TX.region); (focus (simp only [List.toList_toArray] <;> exact rfl)); (focus rfl); (try dsimp only)) | ((with_reducible apply TX.cond_true); (focus rfl); (focus (first | rfl | (simp only [z1, Bool.not_true, Bool.not_false, h4, h6]; done)))) | ((with_reducible apply TX.cond_false); (focus rfl); (focus (first | rfl | (simp only [z1, Bool.not_true, Bool.not_false, h4, h6]; done)))) | fail)
        obtain ⟨⟨v18, v19⟩, h7, hr⟩ := Option.bind_eq_some_iff.1 hr
        try dsimp only at hr
        apply TO.cal (by first | rfl | (simp only [twant, z1, List.getElem?_toArray, Option.bind_some, h4, h6]; done)) rfl goFn28 (filter_lowest_spec h7) rfl rfl rfl
        (repeat (focus (show _ = _; first | exact k1 rfl | exact k2 rfl | (simp only [zz, ty_filter_GainSquare, e_i, Nat.reduceAdd, Nat.reduceMul, Nat.reduceLeDiff, shift, kill, killB, frz, frzB, view, tml, tmlc, List.length_set, h4, h6] <;> exact rfl) | exact rfl)))
        with_reducible apply TO.here
        repeat (first | with_reducible refine mv ?_ | with_reducible refine m12 rfl ?_ | with_reducible refine TO.nil ?_ | ((with_reducible first | apply TO.al | apply TO.sv | apply TO.fa | apply TO.ld); (repeat (focus (show _ = _; first | exact k1 rfl | exact k2 rfl | (simp only [zz, ty_filter_GainSquare, e_i, Nat.reduceAdd, Nat.reduceMul, Nat.reduceLeDiff, tfieldAddr, tload, rowOf, partT, List.getElem?_map, h4, h6] <;> exact rfl) | exact rfl))); (with_reducible refine TO.here ?_)) | ((with_reducible apply TX.region); (focus (simp only [List.toList_toArray] <;> exact rfl)); (focus rfl); (try dsimp only)) | fail)
        apply TO.pop1 (by first | rfl | (simp only [twant, z1, List.getElem?_toArray, Option.bind_some, h4, h6]; done)) (pop_max rfl rfl)
        (repeat (focus (show _ = _; first | exact k1 rfl | exact k2 rfl | (simp only [zz, ty_filter_GainSquare, e_i, Nat.reduceAdd, Nat.reduceMul, Nat.reduceLeDiff, h4, h6] <;> exact rfl) | exact rfl)))
        with_reducible apply TO.here
        repeat (first | with_reducible refine mv ?_ | with_reducible refine m12 rfl ?_ | with_reducible refine TO.nil ?_ | ((with_reducible first | apply TO.bin); (repeat (focus (show _ = _; first | exact k1 rfl | exact k2 rfl | (simp only [zz, ty_filter_GainSquare, e_i, Nat.reduceAdd, Nat.reduceMul, Nat.reduceLeDiff, h4, h6] <;> exact rfl) | exact rfl))); (with_reducible refine TO.here ?_)) | ((with_reducible apply TX.region); (focus (simp only [List.toList_toArray] <;> exact rfl)); (focus rfl); (try dsimp only)) | ((with_reducible apply TX.cond_true); (focus rfl); (focus (first | rfl | (simp only [z1, Bool.not_true, Bool.not_false, h4, h6]; done)))) | ((with_reducible apply TX.cond_false); (focus rfl); (focus (first | rfl | (simp only [z1, Bool.not_true, Bool.not_false, h4, h6]; done)))) | fail)
        rcases Bool.eq_false_or_eq_true ((decide ((if v19 > v18 then v19 else v18) > 1000000000))) with h8 | h8
        · rw [if_pos h8] at hr
          repeat (first | with_reducible refine mv ?_ | with_reducible refine m12 rfl ?_ | with_reducible refine TO.nil ?_ | ((with_reducible first | apply TO.bld | apply TO.sv | apply TO.asg); (repeat (focus (show _ = _; first | exact k1 rfl | exact k2 rfl | (simp only [zz, ty_filter_GainSquare, e_i, Nat.reduceAdd, Nat.reduceMul, Nat.reduceLeDiff, tbuild, tfill, h4, h6, h8] <;> exact rfl) | exact rfl))); (with_reducible refine TO.here ?_)) | ((with_reducible apply TX.region); (focus (simp only [List.toList_toArray] <;> exact rfl)); (focus rfl); (try dsimp only)) | ((with_reducible apply TX.cond_true); (focus rfl); (focus (first | rfl | (simp only [z1, Bool.not_true, Bool.not_false, h4, h6, h8]; done)))) | ((with_reducible apply TX.cond_false); (focus rfl); (focus (first | rfl | (simp only [z1, Bool.not_true, Bool.not_false, h4, h6, h8]; done)))) | fail)
          cases hr
          refine ⟨.inr rfl, _, (by simp only [zy, ty_filter_GainSquare, e_i, tresAll, tres, tload, rowOf, partT, h4, h6, h8]; exact rfl), ?_⟩
          exact Wk.ren [] rfl .nil (by (repeat (first | exact RNs.nil | refine RNs.cons .junk ?_ | refine RNs.cons (.keep rfl rfl) ?_ | refine RNs.cons (.lsl rfl rfl) ?_ | refine RNs.cons (.lsl rfl (by simp only [List.length_set])) ?_ | refine RNs.cons (.lptr rfl) ?_ | refine RNs.cons (.nil rfl) ?_ | refine RNs.cons .nl ?_ | refine RNs.cons (.keep (by simp only [h4, h6, h8]) rfl) ?_ | refine RNs.cons (.tuple' ?_) ?_ | refine RNs.cons (.agg' ?_) ?_)))
        · rw [if_neg (by rw [h8]; exact Bool.false_ne_true)] at hr
          repeat (first | with_reducible refine mv ?_ | with_reducible refine m12 rfl ?_ | with_reducible refine TO.nil ?_ | ((with_reducible first | apply TO.ld | apply TO.sv | apply TO.asg); (repeat (focus (show _ = _; first | exact k1 rfl | exact k2 rfl | (simp only [zz, ty_filter_GainSquare, e_i, Nat.reduceAdd, Nat.reduceMul, Nat.reduceLeDiff, tload, rowOf, partT, List.getElem?_map, h4, h6, h8] <;> exact rfl) | exact rfl))); (with_reducible refine TO.here ?_)) | ((with_reducible apply TX.region); (focus (simp only [List.toList_toArray] <;> exact rfl)); (focus rfl); (try dsimp only)) | ((with_reducible apply TX.cond_true); (focus rfl); (focus (first | rfl | (simp only [z1, Bool.not_true, Bool.not_false, h4, h6, h8]; done)))) | ((with_reducible apply TX.cond_false); (focus rfl); (focus (first | rfl | (simp only [z1, Bool.not_true, Bool.not_false, h4, h6, h8]; done)))) | fail)
          cases hr
          refine ⟨.inr rfl, _, (by simp only [zy, ty_filter_GainSquare, e_i, tresAll, tres, tload, rowOf, partT, h4, h6, h8]; exact rfl), ?_⟩
          exact Wk.ren [] rfl .nil (by (repeat (first | exact RNs.nil | refine RNs.cons .junk ?_ | refine RNs.cons (.keep rfl rfl) ?_ | refine RNs.cons (.lsl rfl rfl) ?_ | refine RNs.cons (.lsl rfl (by simp only [List.length_set])) ?_ | refine RNs.cons (.lptr rfl) ?_ | refine RNs.cons (.nil rfl) ?_ | refine RNs.cons .nl ?_ | refine RNs.cons (.keep (by simp only [h4, h6, h8]) rfl) ?_ | refine RNs.cons (.tuple' ?_) ?_ | refine RNs.cons (.agg' ?_) ?_)))
  rfl

end Go.Rex

namespace Go.Rex
open Go.Proofs
open Go Go.Rex Go.RowKit
set_option maxRecDepth 100000
theorem base_Floor_spec {v1 : Int} {v2 : Int} {v3 : Int} (hr : base_Floor v1 v2 = some (v3)) : Spec (lim Try.prog) 29 [.v (.int .i64 v1), .v (.int .i64 v2)] ⟨[.v (.int .i64 v3)], []⟩ := by
  unfold base_Floor at hr
  apply Spec.fn Try.func29 rfl
  focus (simp [Try.f29] <;> exact rfl)
  focus
    repeat (first | with_reducible refine mv ?_ | with_reducible refine m12 rfl ?_ | with_reducible refine TO.nil ?_ | ((with_reducible first | apply TO.asg | apply TO.mv); (repeat (focus (show _ = _; first | exact k1 rfl | exact k2 rfl | (simp only [zz, Nat.reduceAdd, Nat.reduceMul, Nat.reduceLeDiff] <;> exact rfl) | exact rfl))); (with_reducible refine TO.here ?_)) | ((with_reducible apply TX.region); (focus (simp only [List.toList_toArray] <;> exact rfl)); (focus rfl); (try dsimp only)) | fail)
    by_cases h1 : v2 = 0
    · rw [if_pos h1] at hr
      cases hr
    · rw [if_neg h1] at hr
      repeat (first | with_reducible refine mv ?_ | with_reducible refine m12 rfl ?_ | with_reducible refine TO.nil ?_ | ((with_reducible first | apply TO.bin | apply TO.asg | apply TO.mv); (repeat (focus (show _ = _; first | exact k1 rfl | exact k2 rfl | (simp only [zz, Nat.reduceAdd, Nat.reduceMul, Nat.reduceLeDiff, h1] <;> exact rfl) | exact rfl))); (with_reducible refine TO.here ?_)) | ((with_reducible apply TX.region); (focus (simp only [List.toList_toArray] <;> exact rfl)); (focus rfl); (try dsimp only)) | ((with_reducible apply TX.cond_true); (focus rfl); (focus (first | rfl | (simp only [z1, Bool.not_true, Bool.not_false, h1]; done)))) | ((with_reducible apply TX.cond_false); (focus rfl); (focus (first | rfl | (simp only [z1, Bool.not_true, Bool.not_false, h1]; done)))) | fail)
      rcases Bool.eq_false_or_eq_true ((decide ((v1.tmod v2) < 0))) with h2 | h2
      · rw [if_pos h2] at hr
        repeat (first | with_reducible refine mv ?_ | with_reducible refine m12 rfl ?_ | with_reducible refine TO.nil ?_ | ((with_reducible first | apply TO.mv | apply TO.bin | apply TO.asg); (repeat (focus (show _ = _; first | exact k1 rfl | exact k2 rfl | (simp only [zz, Nat.reduceAdd, Nat.reduceMul, Nat.reduceLeDiff, h1, h2] <;> exact rfl) | exact rfl))); (with_reducible refine TO.here ?_)) | ((with_reducible apply TX.region); (focus (simp only [List.toList_toArray] <;> exact rfl)); (focus rfl); (try dsimp only)) | ((with_reducible apply TX.cond_true); (focus rfl); (focus (first | rfl | (simp only [z1, Bool.not_true, Bool.not_false, h1, h2]; done)))) | ((with_reducible apply TX.cond_false); (focus rfl); (focus (first | rfl | (simp only [z1, Bool.not_true, Bool.not_false, h1, h2]; done)))) | fail)
        cases hr
        refine ⟨.inr rfl, _, (by simp only [zy, tresAll, tres, tload, rowOf, partT, h1, h2]; exact rfl), ?_⟩
        exact Wk.ren [] rfl .nil (by (repeat (first | exact RNs.nil | refine RNs.cons .junk ?_ | refine RNs.cons (.keep rfl rfl) ?_ | refine RNs.cons (.lsl rfl rfl) ?_ | refine RNs.cons (.lsl rfl (by simp only [List.length_set])) ?_ | refine RNs.cons (.lptr rfl) ?_ | refine RNs.cons (.nil rfl) ?_ | refine RNs.cons .nl ?_ | refine RNs.cons (.keep (by simp only [h2]) rfl) ?_ | refine RNs.cons (.tuple' ?_) ?_ | refine RNs.cons (.agg' ?_) ?_)))
      · rw [if_neg (by rw [h2]; exact Bool.false_ne_true)] at hr
        repeat (first | with_reducible refine mv ?_ | with_reducible refine m12 rfl ?_ | with_reducible refine TO.nil ?_ | ((with_reducible first | apply TO.mv | apply TO.asg); (repeat (focus (show _ = _; first | exact k1 rfl | exact k2 rfl | (simp only [zz, Nat.reduceAdd, Nat.reduceMul, Nat.reduceLeDiff, h1, h2] <;> exact rfl) | exact rfl))); (with_reducible refine TO.here ?_)) | ((with_reducible apply TX.region); (focus (simp only [List.toList_toArray] <;> exact rfl)); (focus rfl); (try dsimp only)) | ((with_reducible apply TX.cond_true); (focus rfl); (focus (first | rfl | (simp only [z1, Bool.not_true, Bool.not_false, h1, h2]; done)))) | ((with_reducible apply TX.cond_false); (focus rfl); (focus (first | rfl | (simp only [z1, Bool.not_true, Bool.not_false, h1, h2]; done)))) | fail)
        cases hr
        refine ⟨.inr rfl, _, (by simp only [zy, tresAll, tres, tload, rowOf, partT, h1, h2]; exact rfl), ?_⟩
        exact Wk.ren [] rfl .nil (by (repeat (first | exact RNs.nil | refine RNs.cons .junk ?_ | refine RNs.cons (.keep rfl rfl) ?_ | refine RNs.cons (.lsl rfl rfl) ?_ | refine RNs.cons (.lsl rfl (by simp only [List.length_set])) ?_ | refine RNs.cons (.lptr rfl) ?_ | refine RNs.cons (.nil rfl) ?_ | refine RNs.cons .nl ?_ | refine RNs.cons (.keep (by simp only [h2]) rfl) ?_ | refine RNs.cons (.tuple' ?_) ?_ | refine RNs.cons (.agg' ?_) ?_)))
  rfl

end Go.Rex

namespace Go.Rex
open Go.Proofs
open Go Go.Rex Go.RowKit
set_option maxRecDepth 100000
theorem base_Compare_spec {v1 : Int} {v2 : Int} {v3 : Int} {v4 : Int} {v5 : Int} (hr : base_Compare v1 v2 v3 v4 = some (v5)) : Spec (lim Try.prog) 14 [.v (.int .i64 v1), .v (.int .i64 v2), .v (.int .i64 v3), .v (.int .i64 v4)] ⟨[.v (.int .i64 v5)], []⟩ := by
  unfold base_Compare at hr
  apply Spec.fn Try.func14 rfl
  focus (simp [Try.f14] <;> exact rfl)
  focus
    repeat (first | with_reducible refine mv ?_ | with_reducible refine m12 rfl ?_ | with_reducible refine TO.nil ?_ | ((with_reducible first | apply TO.asg); (repeat (focus (show _ = _; first | exact k1 rfl | exact k2 rfl | (simp only [zz, Nat.reduceAdd, Nat.reduceMul, Nat.reduceLeDiff] <;> exact rfl) | exact rfl))); (with_reducible refine TO.here ?_)) | ((with_reducible apply TX.region); (focus (simp only [List.toList_toArray] <;> exact rfl)); (focus rfl); (try dsimp only)) | fail)
    obtain ⟨v15, h15, hr⟩ := Option.bind_eq_some_iff.1 hr
    try dsimp only at hr
    refine TX.loopE (step := base_Compare_l1) (x := (v1, v2, v3, v4)) h15 (fun (v6, v7, v8, v9) => ⟨.v (.int .i64 v6) :: .v (.int .i64 v7) :: .v (.int .i64 v8) :: .v (.int .i64 v9) :: .junk :: .junk :: .junk :: .junk :: .junk :: .junk :: .junk :: .junk :: .junk :: .junk :: .junk :: .junk :: .junk :: .junk :: .junk :: .junk :: .junk :: .junk :: .junk :: .junk :: .junk :: .junk :: .junk :: .junk :: .junk :: .junk :: .junk :: .junk :: .junk :: .junk :: .junk :: .junk :: .junk :: .junk :: .junk :: .junk :: .junk :: .junk :: .junk :: .junk :: .junk :: .junk :: .junk :: [], []⟩) (fun v12 => (.ret, ⟨.junk :: .junk :: .junk :: .junk :: .junk :: .junk :: .junk :: .junk :: .v (.int .i64 v12) :: .junk :: .junk :: .junk :: .junk :: .junk :: .junk :: .junk :: .junk :: .junk :: .junk :: .junk :: .junk :: .junk :: .junk :: .junk :: .junk :: .junk :: .junk :: .junk :: .junk :: .junk :: .junk :: .junk :: .junk :: .junk :: .junk :: .junk :: .junk :: .junk :: .junk :: .junk :: .junk :: .junk :: .junk :: .junk :: .junk :: .junk :: .junk :: [], []⟩)) ?_ ?_ ?_ ?_
    · rintro ⟨v6, v7, v8, v9⟩ v0 hr
      dsimp only [base_Compare_l1] at hr
      try dsimp only
      repeat (first | with_reducible refine mv ?_ | with_reducible refine m12 rfl ?_ | with_reducible refine TO.nil ?_ | ((with_reducible first | apply TO.mv); (repeat (focus (show _ = _; first | exact k1 rfl | exact k2 rfl | (simp only [zz, Nat.reduceAdd, Nat.reduceMul, Nat.reduceLeDiff] <;> exact rfl) | exact rfl))); (with_reducible refine TO.here ?_)) | ((with_reducible apply TX.region); (focus (simp only [List.toList_toArray] <;> exact rfl)); (focus rfl); (try dsimp only)) | fail)
      obtain ⟨v13, h8, hr⟩ := Option.bind_eq_some_iff.1 hr
      try dsimp only at hr
      apply TO.cal (by first | rfl | (simp only [twant, z1, List.getElem?_toArray, Option.bind_some]; done)) rfl goFn29 (base_Floor_spec h8) rfl rfl rfl
      (repeat (focus (show _ = _; first | exact k1 rfl | exact k2 rfl | (simp only [zz, Nat.reduceAdd, Nat.reduceMul, Nat.reduceLeDiff, shift, kill, killB, frz, frzB, view, tml, tmlc, List.length_set] <;> exact rfl) | exact rfl)))
      with_reducible apply TO.here
      repeat (first | with_reducible refine mv ?_ | with_reducible refine m12 rfl ?_ | with_reducible refine TO.nil ?_ | ((with_reducible first | apply TO.mv); (repeat (focus (show _ = _; first | exact k1 rfl | exact k2 rfl | (simp only [zz, Nat.reduceAdd, Nat.reduceMul, Nat.reduceLeDiff] <;> exact rfl) | exact rfl))); (with_reducible refine TO.here ?_)) | ((with_reducible apply TX.region); (focus (simp only [List.toList_toArray] <;> exact rfl)); (focus rfl); (try dsimp only)) | fail)
      obtain ⟨v14, h9, hr⟩ := Option.bind_eq_some_iff.1 hr
      try dsimp only at hr
      apply TO.cal (by first | rfl | (simp only [twant, z1, List.getElem?_toArray, Option.bind_some]; done)) rfl goFn29 (base_Floor_spec h9) rfl rfl rfl
      (repeat (focus (show _ = _; first | exact k1 rfl | exact k2 rfl | (simp only [zz, Nat.reduceAdd, Nat.reduceMul, Nat.reduceLeDiff, shift, kill, killB, frz, frzB, view, tml, tmlc, List.length_set] <;> exact rfl) | exact rfl)))
      with_reducible apply TO.here
      repeat (first | with_reducible refine mv ?_ | with_reducible refine m12 rfl ?_ | with_reducible refine TO.nil ?_ | ((with_reducible first | apply TO.asg | apply TO.mv | apply TO.bin); (repeat (focus (show _ = _; first | exact k1 rfl | exact k2 rfl | (simp only [zz, Nat.reduceAdd, Nat.reduceMul, Nat.reduceLeDiff] <;> exact rfl) | exact rfl))); (with_reducible refine TO.here ?_)) | ((with_reducible apply TX.region); (focus (simp only [List.toList_toArray] <;> exact rfl)); (focus rfl); (try dsimp only)) | ((with_reducible apply TX.cond_true); (focus rfl); (focus (first | rfl | (simp only [z1, Bool.not_true, Bool.not_false]; done)))) | ((with_reducible apply TX.cond_false); (focus rfl); (focus (first | rfl | (simp only [z1, Bool.not_true, Bool.not_false]; done)))) | fail)
      rcases Bool.eq_false_or_eq_true ((decide (v13 < v14))) with h10 | h10
      · rw [if_pos h10] at hr
        repeat (first | with_reducible refine mv ?_ | with_reducible refine m12 rfl ?_ | with_reducible refine TO.nil ?_ | ((with_reducible first | apply TO.asg); (repeat (focus (show _ = _; first | exact k1 rfl | exact k2 rfl | (simp only [zz, Nat.reduceAdd, Nat.reduceMul, Nat.reduceLeDiff, h10] <;> exact rfl) | exact rfl))); (with_reducible refine TO.here ?_)) | ((with_reducible apply TX.region); (focus (simp only [List.toList_toArray] <;> exact rfl)); (focus rfl); (try dsimp only)) | ((with_reducible apply TX.cond_true); (focus rfl); (focus (first | rfl | (simp only [z1, Bool.not_true, Bool.not_false, h10]; done)))) | ((with_reducible apply TX.cond_false); (focus rfl); (focus (first | rfl | (simp only [z1, Bool.not_true, Bool.not_false, h10]; done)))) | fail)
        cases hr
        refine ⟨rfl, ?_⟩
        exact Wk.ren [] rfl .nil (by (repeat (first | exact RNs.nil | refine RNs.cons .junk ?_ | refine RNs.cons (.keep rfl rfl) ?_ | refine RNs.cons (.lsl rfl rfl) ?_ | refine RNs.cons (.lsl rfl (by simp only [List.length_set])) ?_ | refine RNs.cons (.lptr rfl) ?_ | refine RNs.cons (.nil rfl) ?_ | refine RNs.cons .nl ?_ | refine RNs.cons (.keep (by simp only [h10]) rfl) ?_ | refine RNs.cons (.tuple' ?_) ?_ | refine RNs.cons (.agg' ?_) ?_)))
      · rw [if_neg (by rw [h10]; exact Bool.false_ne_true)] at hr
        repeat (first | with_reducible refine mv ?_ | with_reducible refine m12 rfl ?_ | with_reducible refine TO.nil ?_ | ((with_reducible first | apply TO.mv | apply TO.bin); (repeat (focus (show _ = _; first | exact k1 rfl | exact k2 rfl | (simp only [zz, Nat.reduceAdd, Nat.reduceMul, Nat.reduceLeDiff, h10] <;> exact rfl) | exact rfl))); (with_reducible refine TO.here ?_)) | ((with_reducible apply TX.region); (focus (simp only [List.toList_toArray] <;> exact rfl)); (focus rfl); (try dsimp only)) | ((with_reducible apply TX.cond_true); (focus rfl); (focus (first | rfl | (simp only [z1, Bool.not_true, Bool.not_false, h10]; done)))) | ((with_reducible apply TX.cond_false); (focus rfl); (focus (first | rfl | (simp only [z1, Bool.not_true, Bool.not_false, h10]; done)))) | fail)
        rcases Bool.eq_false_or_eq_true ((decide (v13 > v14))) with h11 | h11
        · rw [if_pos h11] at hr
          repeat (first | with_reducible refine mv ?_ | with_reducible refine m12 rfl ?_ | with_reducible refine TO.nil ?_ | ((with_reducible first | apply TO.asg); (repeat (focus (show _ = _; first | exact k1 rfl | exact k2 rfl | (simp only [zz, Nat.reduceAdd, Nat.reduceMul, Nat.reduceLeDiff, h10, h11] <;> exact rfl) | exact rfl))); (with_reducible refine TO.here ?_)) | ((with_reducible apply TX.region); (focus (simp only [List.toList_toArray] <;> exact rfl)); (focus rfl); (try dsimp only)) | ((with_reducible apply TX.cond_true); (focus rfl); (focus (first | rfl | (simp only [z1, Bool.not_true, Bool.not_false, h10, h11]; done)))) | ((with_reducible apply TX.cond_false); (focus rfl); (focus (first | rfl | (simp only [z1, Bool.not_true, Bool.not_false, h10, h11]; done)))) | fail)
          cases hr
          refine ⟨rfl, ?_⟩
          exact Wk.ren [] rfl .nil (by (repeat (first | exact RNs.nil | refine RNs.cons .junk ?_ | refine RNs.cons (.keep rfl rfl) ?_ | refine RNs.cons (.lsl rfl rfl) ?_ | refine RNs.cons (.lsl rfl (by simp only [List.length_set])) ?_ | refine RNs.cons (.lptr rfl) ?_ | refine RNs.cons (.nil rfl) ?_ | refine RNs.cons .nl ?_ | refine RNs.cons (.keep (by simp only [h10, h11]) rfl) ?_ | refine RNs.cons (.tuple' ?_) ?_ | refine RNs.cons (.agg' ?_) ?_)))
        · rw [if_neg (by rw [h11]; exact Bool.false_ne_true)] at hr
          repeat (first | with_reducible refine mv ?_ | with_reducible refine m12 rfl ?_ | with_reducible refine TO.nil ?_ | ((with_reducible first | apply TO.mv | apply TO.bin | apply TO.asg); (repeat (focus (show _ = _; first | exact k1 rfl | exact k2 rfl | (simp only [zz, Nat.reduceAdd, Nat.reduceMul, Nat.reduceLeDiff, h10, h11] <;> exact rfl) | exact rfl))); (with_reducible refine TO.here ?_)) | ((with_reducible apply TX.region); (focus (simp only [List.toList_toArray] <;> exact rfl)); (focus rfl); (try dsimp only)) | ((with_reducible apply TX.cond_true); (focus rfl); (focus (first | rfl | (simp only [z1, Bool.not_true, Bool.not_false, h10, h11]; done)))) | ((with_reducible apply TX.cond_false); (focus rfl); (focus (first | rfl | (simp only [z1, Bool.not_true, Bool.not_false, h10, h11]; done)))) | fail)
          rcases Bool.eq_false_or_eq_true ((decide ((IntKind.i64.wrap (v6 - (IntKind.i64.wrap (v13 * v7)))) = 0))) with h12 | h12
          · rw [if_pos h12] at hr
            repeat (first | with_reducible refine mv ?_ | with_reducible refine m12 rfl ?_ | with_reducible refine TO.nil ?_ | ((with_reducible first | apply TO.mv | apply TO.bin | apply TO.pk); (repeat (focus (show _ = _; first | exact k1 rfl | exact k2 rfl | (simp only [zz, Nat.reduceAdd, Nat.reduceMul, Nat.reduceLeDiff, h10, h11, h12] <;> exact rfl) | exact rfl))); (with_reducible refine TO.here ?_)) | ((with_reducible apply TX.region); (focus (simp only [List.toList_toArray] <;> exact rfl)); (focus rfl); (try dsimp only)) | ((with_reducible apply TX.cond_true); (focus rfl); (focus (first | rfl | (simp only [z1, Bool.not_true, Bool.not_false, h10, h11, h12]; done)))) | ((with_reducible apply TX.cond_false); (focus rfl); (focus (first | rfl | (simp only [z1, Bool.not_true, Bool.not_false, h10, h11, h12]; done)))) | fail)
            rcases Bool.eq_false_or_eq_true ((decide ((IntKind.i64.wrap (v8 - (IntKind.i64.wrap (v14 * v9)))) = 0))) with h13 | h13
            · rw [if_pos h13] at hr
              repeat (first | with_reducible refine mv ?_ | with_reducible refine m12 rfl ?_ | with_reducible refine TO.nil ?_ | ((with_reducible first | apply TO.asg); (repeat (focus (show _ = _; first | exact k1 rfl | exact k2 rfl | (simp only [zz, Nat.reduceAdd, Nat.reduceMul, Nat.reduceLeDiff, h10, h11, h12, h13] <;> exact rfl) | exact rfl))); (with_reducible refine TO.here ?_)) | ((with_reducible apply TX.region); (focus (simp only [List.toList_toArray] <;> exact rfl)); (focus rfl); (try dsimp only)) | ((with_reducible apply TX.cond_true); (focus rfl); (focus (first | rfl | (simp only [z1, Bool.not_true, Bool.not_false, h10, h11, h12, h13]; done)))) | ((with_reducible apply TX.cond_false); (focus rfl); (focus (first | rfl | (simp only [z1, Bool.not_true, Bool.not_false, h10, h11, h12, h13]; done)))) | fail)
              cases hr
              refine ⟨rfl, ?_⟩
              exact Wk.ren [] rfl .nil (by (repeat (first | exact RNs.nil | refine RNs.cons .junk ?_ | refine RNs.cons (.keep rfl rfl) ?_ | refine RNs.cons (.lsl rfl rfl) ?_ | refine RNs.cons (.lsl rfl (by simp only [List.length_set])) ?_ | refine RNs.cons (.lptr rfl) ?_ | refine RNs.cons (.nil rfl) ?_ | refine RNs.cons .nl ?_ | refine RNs.cons (.keep (by simp only [h10, h11, h12, h13]) rfl) ?_ | refine RNs.cons (.tuple' ?_) ?_ | refine RNs.cons (.agg' ?_) ?_)))
            · rw [if_neg (by rw [h13]; exact Bool.false_ne_true)] at hr
              repeat (first | with_reducible refine mv ?_ | with_reducible refine m12 rfl ?_ | with_reducible refine TO.nil ?_ | ((with_reducible first | apply TO.mv | apply TO.bin | apply TO.asg); (repeat (focus (show _ = _; first | exact k1 rfl | exact k2 rfl | (simp only [zz, Nat.reduceAdd, Nat.reduceMul, Nat.reduceLeDiff, h10, h11, h12, h13] <;> exact rfl) | exact rfl))); (with_reducible refine TO.here ?_)) | ((with_reducible apply TX.region); (focus (simp only [List.toList_toArray] <;> exact rfl)); (focus rfl); (try dsimp only)) | ((with_reducible apply TX.cond_true); (focus rfl); (focus (first | rfl | (simp only [z1, Bool.not_true, Bool.not_false, h10, h11, h12, h13]; done)))) | ((with_reducible apply TX.cond_false); (focus rfl); (focus (first | rfl | (simp only [z1, Bool.not_true, Bool.not_false, h10, h11, h12, h13]; done)))) | fail)
              cases hr
              refine ⟨rfl, ?_⟩
              exact Wk.ren [] rfl .nil (by (repeat (first | exact RNs.nil | refine RNs.cons .junk ?_ | refine RNs.cons (.keep rfl rfl) ?_ | refine RNs.cons (.lsl rfl rfl) ?_ | refine RNs.cons (.lsl rfl (by simp only [List.length_set])) ?_ | refine RNs.cons (.lptr rfl) ?_ | refine RNs.cons (.nil rfl) ?_ | refine RNs.cons .nl ?_ | refine RNs.cons (.keep (by simp only [h10, h11, h12, h13]) rfl) ?_ | refine RNs.cons (.tuple' ?_) ?_ | refine RNs.cons (.agg' ?_) ?_)))
          · rw [if_neg (by rw [h12]; exact Bool.false_ne_true)] at hr
            repeat (first | with_reducible refine mv ?_ | with_reducible refine m12 rfl ?_ | with_reducible refine TO.nil ?_ | ((with_reducible first | apply TO.pk | apply TO.mv | apply TO.bin); (repeat (focus (show _ = _; first | exact k1 rfl | exact k2 rfl | (simp only [zz, Nat.reduceAdd, Nat.reduceMul, Nat.reduceLeDiff, h10, h11, h12] <;> exact rfl) | exact rfl))); (with_reducible refine TO.here ?_)) | ((with_reducible apply TO.skip1); (repeat (focus (show _ = _; first | exact k1 rfl | exact k2 rfl | (simp only [zz, Nat.reduceAdd, Nat.reduceMul, Nat.reduceLeDiff, twant, List.getElem?_toArray, Option.bind_some, h10, h11, h12] <;> exact rfl) | exact rfl))); (with_reducible refine TO.here ?_)) | ((with_reducible apply TX.region); (focus (simp only [List.toList_toArray] <;> exact rfl)); (focus rfl); (try dsimp only)) | ((with_reducible apply TX.cond_true); (focus rfl); (focus (first | rfl | (simp only [z1, Bool.not_true, Bool.not_false, h10, h11, h12]; done)))) | ((with_reducible apply TX.cond_false); (focus rfl); (focus (first | rfl | (simp only [z1, Bool.not_true, Bool.not_false, h10, h11, h12]; done)))) | fail)
            rcases Bool.eq_false_or_eq_true ((decide ((IntKind.i64.wrap (v8 - (IntKind.i64.wrap (v14 * v9)))) = 0))) with h14 | h14
            · rw [if_pos h14] at hr
              repeat (first | with_reducible refine mv ?_ | with_reducible refine m12 rfl ?_ | with_reducible refine TO.nil ?_ | ((with_reducible first | apply TO.asg); (repeat (focus (show _ = _; first | exact k1 rfl | exact k2 rfl | (simp only [zz, Nat.reduceAdd, Nat.reduceMul, Nat.reduceLeDiff, h10, h11, h12, h14] <;> exact rfl) | exact rfl))); (with_reducible refine TO.here ?_)) | ((with_reducible apply TX.region); (focus (simp only [List.toList_toArray] <;> exact rfl)); (focus rfl); (try dsimp only)) | ((with_reducible apply TX.cond_true); (focus rfl); (focus (first | rfl | (simp only [z1, Bool.not_true, Bool.not_false, h10, h11, h12, h14]; done)))) | ((with_reducible apply TX.cond_false); (focus rfl); (focus (first | rfl | (simp only [z1, Bool.not_true, Bool.not_false, h10, h11, h12, h14]; done)))) | fail)
              cases hr
              refine ⟨rfl, ?_⟩
              exact Wk.ren [] rfl .nil (by (repeat (first | exact RNs.nil | refine RNs.cons .junk ?_ | refine RNs.cons (.keep rfl rfl) ?_ | refine RNs.cons (.lsl rfl rfl) ?_ | refine RNs.cons (.lsl rfl (by simp only [List.length_set])) ?_ | refine RNs.cons (.lptr rfl) ?_ | refine RNs.cons (.nil rfl) ?_ | refine RNs.cons .nl ?_ | refine RNs.cons (.keep (by simp only [h10, h11, h12, h14]) rfl) ?_ | refine RNs.cons (.tuple' ?_) ?_ | refine RNs.cons (.agg' ?_) ?_)))
            · rw [if_neg (by rw [h14]; exact Bool.false_ne_true)] at hr
              repeat (first | with_reducible refine mv ?_ | with_reducible refine m12 rfl ?_ | with_reducible refine TO.nil ?_ | ((with_reducible first | apply TO.mv | apply TO.asg); (repeat (focus (show _ = _; first | exact k1 rfl | exact k2 rfl | (simp only [zz, Nat.reduceAdd, Nat.reduceMul, Nat.reduceLeDiff, h10, h11, h12, h14] <;> exact rfl) | exact rfl))); (with_reducible refine TO.here ?_)) | ((with_reducible apply TX.region); (focus (simp only [List.toList_toArray] <;> exact rfl)); (focus rfl); (try dsimp only)) | ((with_reducible apply TX.cond_true); (focus rfl); (focus (first | rfl | (simp only [z1, Bool.not_true, Bool.not_false, h10, h11, h12, h14]; done)))) | ((with_reducible apply TX.cond_false); (focus rfl); (focus (first | rfl | (simp only [z1, Bool.not_true, Bool.not_false, h10, h11, h12, h14]; done)))) | fail)
              cases hr
              refine ⟨rfl, ?_⟩
              exact Wk.ren [] rfl .nil (by (repeat (first | exact RNs.nil | refine RNs.cons .junk ?_ | refine RNs.cons (.keep rfl rfl) ?_ | refine RNs.cons (.lsl rfl rfl) ?_ | refine RNs.cons (.lsl rfl (by simp only [List.length_set])) ?_ | refine RNs.cons (.lptr rfl) ?_ | refine RNs.cons (.nil rfl) ?_ | refine RNs.cons .nl ?_ | refine RNs.cons (.keep (by simp only [h10, h11, h12, h14]) rfl) ?_ | refine RNs.cons (.tuple' ?_) ?_ | refine RNs.cons (.agg' ?_) ?_)))
    · intro e h; cases h
    · try dsimp only
      repeat (first | with_reducible refine mv ?_ | with_reducible refine m12 rfl ?_ | fail)
      cases hr
      refine ⟨.inr rfl, _, (by simp only [zy, tresAll, tres, tload, rowOf, partT]; exact rfl), ?_⟩
      exact wr [] rfl .nil
    · try dsimp only
      exact wr [] rfl .nil
  rfl

end Go.Rex

namespace Go.Rex
open Go.Proofs
open Go Go.Rex Go.RowKit
set_option maxRecDepth 100000
theorem awake_true : isTrue (ecall Try.prog 1000 50 5 [] []) = true := by decide +kernel
theorem follows : Try.prog.follows .mixedOrders = true := by decide +kernel

end Go.Rex
