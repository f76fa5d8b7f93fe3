/- Proofs that the program's functions do what these plain functions say. -/
import Derived.Test.YtojekkfmnnoabaaGB
import Derived.Test.YtojekkfmnnoabaaS
import Derived.Test.YtojekkfmnnoabaaG1
import Derived.Test.YtojekkfmnnoabaaG2
set_option linter.unusedSimpArgs false
set_option linter.unusedVariables false
set_option linter.defProp false
namespace Go.Rex
open Go.Proofs
open Go Go.Rex Go.RowKit
set_option maxRecDepth 100000
def ty_filter_GainSquare := an @ag114 <| an @ag26 <| an @ag3 <| an @ag38 <| an @cs114 <| an @cs169 <| an @cs26 <| an @cs29 <| an @cs38 <| an @fd169_0 <| an @fd169_1 <| an @fd38_0 <| an @fd38_1 <| an @ok114 <| an @ok169 <| an @ok26 <| an @ok38 <| an @so181 <| an @st38 <| an @zc169 <| an @zc29 <| @zc38
theorem filter_GainSquare_spec {v1 : Int} {v2 : Int} {v3 : Int} {v4 : Int} {v5 : Int} {v6 : Int} {v7 : Int} {v8 : Int} {v9 : Int} {v10 : Int} {v11 : Int} (hr : filter_GainSquare v1 v2 v3 v4 v5 v6 v7 v8 = some (v9, v10, v11)) : Spec (lim Try.prog) 62 [.agg [.v (.int .i64 v1), .v (.int .i64 v2), .v (.int .i64 v3), .v (.int .i64 v4), .v (.int .i64 v5)], .agg [.v (.int .i64 v6), .v (.int .i64 v7), .v (.int .i64 v8)]] ⟨[.tuple [.agg [.v (.int .i64 v9), .v (.int .i64 v10)], .v (.int .i64 v11)]], []⟩ := by
  unfold filter_GainSquare at hr
  apply Spec.fn Try.func62 rfl
  focus (simp [Try.f62] <;> exact rfl)
  focus
    repeat (first | with_reducible refine mv ?_ | with_reducible refine m12 rfl ?_ | with_reducible refine TO.nil ?_ | ((with_reducible first | apply TO.bf | apply TO.al | apply TO.asg); (repeat (focus (show _ = _; first | exact k1 rfl | exact k2 rfl | (simp only [zz, ty_filter_GainSquare, e_i, Nat.reduceAdd, Nat.reduceMul, Nat.reduceLeDiff] <;> exact rfl) | exact rfl))); (with_reducible refine TO.here ?_)) | ((with_reducible apply TX.region); (focus (simp only [List.toList_toArray] <;> exact rfl)); (focus rfl); (try dsimp only)) | with_reducible refine TD.nil ?_ | ((with_reducible first | apply TD.ld | apply TD.ldw); (repeat (focus (show _ = _; first | exact k1 rfl | exact k2 rfl | (simp only [zz, ty_filter_GainSquare, e_i, Nat.reduceAdd, Nat.reduceMul, Nat.reduceLeDiff, tload, rowOf, partT, List.getElem?_map] <;> exact rfl) | exact rfl))); (with_reducible refine TD.here ?_)) | ((with_reducible apply TX.drawn); (focus decide +kernel); (focus (simp only [List.toList_toArray] <;> exact rfl)); (focus exact rfl); (try dsimp only)) | fail)
    obtain ⟨v12, h1, hr⟩ := Option.bind_eq_some_iff.1 hr
    try dsimp only at hr
    first | apply TD.cal (by first | rfl | (simp only [twant, z1, List.getElem?_toArray, Option.bind_some]; done)) rfl goFn25 (filter_CheckSection_spec h1) rfl rfl rfl | apply TD.calw (by first | rfl | (simp only [twant, z1, List.getElem?_toArray, Option.bind_some]; done)) rfl goFn25 (filter_CheckSection_spec h1) rfl rfl rfl rfl
    (repeat (focus (show _ = _; first | exact k1 rfl | exact k2 rfl | (simp only [zz, ty_filter_GainSquare, e_i, Nat.reduceAdd, Nat.reduceMul, Nat.reduceLeDiff, shift, kill, killB, frz, frzB, view, tml, tmlc, List.length_set] <;> exact rfl) | exact rfl)))
    with_reducible apply TD.here
    repeat (first | with_reducible refine mv ?_ | with_reducible refine m12 rfl ?_ | with_reducible refine TD.nil ?_ | ((with_reducible first | apply TD.ld | apply TD.ldw); (repeat (focus (show _ = _; first | exact k1 rfl | exact k2 rfl | (simp only [zz, ty_filter_GainSquare, e_i, Nat.reduceAdd, Nat.reduceMul, Nat.reduceLeDiff, tload, rowOf, partT, List.getElem?_map] <;> exact rfl) | exact rfl))); (with_reducible refine TD.here ?_)) | ((with_reducible apply TX.drawn); (focus decide +kernel); (focus (simp only [List.toList_toArray] <;> exact rfl)); (focus exact rfl); (try dsimp only)) | fail)
    obtain ⟨v13, h2, hr⟩ := Option.bind_eq_some_iff.1 hr
    try dsimp only at hr
    first | apply TD.cal (by first | rfl | (simp only [twant, z1, List.getElem?_toArray, Option.bind_some]; done)) rfl goFn100 (filter_turnError_spec h2) rfl rfl rfl | apply TD.calw (by first | rfl | (simp only [twant, z1, List.getElem?_toArray, Option.bind_some]; done)) rfl goFn100 (filter_turnError_spec h2) rfl rfl rfl rfl
    (repeat (focus (show _ = _; first | exact k1 rfl | exact k2 rfl | (simp only [zz, ty_filter_GainSquare, e_i, Nat.reduceAdd, Nat.reduceMul, Nat.reduceLeDiff, shift, kill, killB, frz, frzB, view, tml, tmlc, List.length_set] <;> exact rfl) | exact rfl)))
    with_reducible apply TD.here
    repeat (first | with_reducible refine mv ?_ | with_reducible refine m12 rfl ?_ | with_reducible refine TD.nil ?_ | ((with_reducible apply TX.drawn); (focus decide +kernel); (focus (simp only [List.toList_toArray] <;> exact rfl)); (focus exact rfl); (try dsimp only)) | fail)
    apply TD.bm e_i ([v12, v13] : List Int) (by first | rfl | (simp only [twant, z1, List.getElem?_toArray, Option.bind_some]; done)) rfl (by simp only [zz, ty_filter_GainSquare, e_i, Nat.reduceAdd, Nat.reduceMul, Nat.reduceLeDiff, tslice, tparts]; exact rfl) rfl
    (repeat (focus (show _ = _; first | exact k1 rfl | exact k2 rfl | (simp only [zz, ty_filter_GainSquare, e_i, Nat.reduceAdd, Nat.reduceMul, Nat.reduceLeDiff, tslice, tparts] <;> exact rfl) | exact rfl)))
    with_reducible apply TD.here
    repeat (first | with_reducible refine mv ?_ | with_reducible refine m12 rfl ?_ | with_reducible refine TD.nil ?_ | ((with_reducible apply TX.drawn); (focus decide +kernel); (focus (simp only [List.toList_toArray] <;> exact rfl)); (focus exact rfl); (try dsimp only)) | fail)
    obtain ⟨v14, h3, hr⟩ := Option.bind_eq_some_iff.1 hr
    try dsimp only at hr
    first | apply TD.cal (by first | rfl | (simp only [twant, z1, List.getElem?_toArray, Option.bind_some]; done)) rfl goFn74 (filter_firstError_spec h3) rfl rfl rfl | apply TD.calw (by first | rfl | (simp only [twant, z1, List.getElem?_toArray, Option.bind_some]; done)) rfl goFn74 (filter_firstError_spec h3) rfl rfl rfl rfl
    (repeat (focus (show _ = _; first | exact k1 rfl | exact k2 rfl | (simp only [zz, ty_filter_GainSquare, e_i, Nat.reduceAdd, Nat.reduceMul, Nat.reduceLeDiff, shift, kill, killB, frz, frzB, view, tml, tmlc, List.length_set] <;> exact rfl) | exact rfl)))
    with_reducible apply TD.here
    repeat (first | with_reducible refine mv ?_ | with_reducible refine m12 rfl ?_ | with_reducible refine TO.nil ?_ | ((with_reducible first | apply TO.mv | apply TO.bin); (repeat (focus (show _ = _; first | exact k1 rfl | exact k2 rfl | (simp only [zz, ty_filter_GainSquare, e_i, Nat.reduceAdd, Nat.reduceMul, Nat.reduceLeDiff] <;> exact rfl) | exact rfl))); (with_reducible refine TO.here ?_)) | ((with_reducible apply TX.region); (focus (simp only [List.toList_toArray] <;> exact rfl)); (focus rfl); (try dsimp only)) | with_reducible refine TD.nil ?_ | ((with_reducible first | apply TD.asg); (repeat (focus (show _ = _; first | exact k1 rfl | exact k2 rfl | (simp only [zz, ty_filter_GainSquare, e_i, Nat.reduceAdd, Nat.reduceMul, Nat.reduceLeDiff] <;> exact rfl) | exact rfl))); (with_reducible refine TD.here ?_)) | ((with_reducible apply TX.drawn); (focus decide +kernel); (focus (simp only [List.toList_toArray] <;> exact rfl)); (focus exact rfl); (try dsimp only)) | ((with_reducible apply TX.cond_true); (focus rfl); (focus (first | rfl | (simp only [z1, Bool.not_true, Bool.not_false]; done)))) | ((with_reducible apply TX.cond_false); (focus rfl); (focus (first | rfl | (simp only [z1, Bool.not_true, Bool.not_false]; done)))) | fail)
    rcases Bool.eq_false_or_eq_true ((decide (v14 ≠ 0))) with h4 | h4
    · rw [if_pos h4] at hr
      repeat (first | with_reducible refine mv ?_ | with_reducible refine m12 rfl ?_ | with_reducible refine TO.nil ?_ | ((with_reducible first | apply TO.bld | apply TO.mv | apply TO.sv | apply TO.asg); (repeat (focus (show _ = _; first | exact k1 rfl | exact k2 rfl | (simp only [zz, ty_filter_GainSquare, e_i, Nat.reduceAdd, Nat.reduceMul, Nat.reduceLeDiff, tbuild, tfill, h4] <;> exact rfl) | exact rfl))); (with_reducible refine TO.here ?_)) | ((with_reducible apply TX.region); (focus (simp only [List.toList_toArray] <;> exact rfl)); (focus rfl); (try dsimp only)) | ((with_reducible apply TX.cond_true); (focus rfl); (focus (first | rfl | (simp only [z1, Bool.not_true, Bool.not_false, h4]; done)))) | ((with_reducible apply TX.cond_false); (focus rfl); (focus (first | rfl | (simp only [z1, Bool.not_true, Bool.not_false, h4]; done)))) | fail)
      cases hr
      refine ⟨.inr rfl, _, (by simp only [zy, ty_filter_GainSquare, e_i, tresAll, tres, tload, rowOf, partT, h4]; exact rfl), ?_⟩
      exact Wk.ren [] rfl .nil (by (repeat (first | exact RNs.nil | refine RNs.cons .junk ?_ | refine RNs.cons (.keep rfl rfl) ?_ | refine RNs.cons (.lsl rfl rfl) ?_ | refine RNs.cons (.lsl rfl (by simp only [List.length_set])) ?_ | refine RNs.cons (.lptr rfl) ?_ | refine RNs.cons (.nil rfl) ?_ | refine RNs.cons .nl ?_ | refine RNs.cons (.keep (by simp only [h4]) rfl) ?_ | refine RNs.cons (.tuple' ?_) ?_ | refine RNs.cons (.agg' ?_) ?_)))
    · rw [if_neg (by rw [h4]; exact Bool.false_ne_true)] at hr
      repeat (first | with_reducible refine mv ?_ | with_reducible refine m12 rfl ?_ | with_reducible refine TO.nil ?_ | ((with_reducible first | apply TO.ld); (repeat (focus (show _ = _; first | exact k1 rfl | exact k2 rfl | (simp only [zz, ty_filter_GainSquare, e_i, Nat.reduceAdd, Nat.reduceMul, Nat.reduceLeDiff, tload, rowOf, partT, List.getElem?_map, h4] <;> exact rfl) | exact rfl))); (with_reducible refine TO.here ?_)) | ((with_reducible apply TX.region); (focus (simp only [List.toList_toArray] <;> exact rfl)); (focus rfl); (try dsimp only)) | ((with_reducible apply TX.cond_true); (focus rfl); (focus (first | rfl | (simp only [z1, Bool.not_true, Bool.not_false, h4]; done)))) | ((with_reducible apply TX.cond_false); (focus rfl); (focus (first | rfl | (simp only [z1, Bool.not_true, Bool.not_false, h4]; done)))) | fail)
      obtain ⟨⟨v15, v16, v17⟩, h5, hr⟩ := Option.bind_eq_some_iff.1 hr
      try dsimp only at hr
      apply TO.cal (by first | rfl | (simp only [twant, z1, List.getElem?_toArray, Option.bind_some, h4]; done)) rfl goFn102 (filter_gainOf_spec h5) rfl rfl rfl
      (repeat (focus (show _ = _; first | exact k1 rfl | exact k2 rfl | (simp only [zz, ty_filter_GainSquare, e_i, Nat.reduceAdd, Nat.reduceMul, Nat.reduceLeDiff, shift, kill, killB, frz, frzB, view, tml, tmlc, List.length_set, h4] <;> exact rfl) | exact rfl)))
      with_reducible apply TO.here
      repeat (first | with_reducible refine mv ?_ | with_reducible refine m12 rfl ?_ | with_reducible refine TO.nil ?_ | ((with_reducible first | apply TO.mv | apply TO.ext | apply TO.al | apply TO.sv | apply TO.asg | apply TO.bin); (repeat (focus (show _ = _; first | exact k1 rfl | exact k2 rfl | (simp only [zz, ty_filter_GainSquare, e_i, Nat.reduceAdd, Nat.reduceMul, Nat.reduceLeDiff, h4] <;> exact rfl) | exact rfl))); (with_reducible refine TO.here ?_)) | ((with_reducible apply TX.region); (focus (simp only [List.toList_toArray] <;> exact rfl)); (focus rfl); (try dsimp only)) | ((with_reducible apply TX.cond_true); (focus rfl); (focus (first | rfl | (simp only [z1, Bool.not_true, Bool.not_false, h4]; done)))) | ((with_reducible apply TX.cond_false); (focus rfl); (focus (first | rfl | (simp only [z1, Bool.not_true, Bool.not_false, h4]; done)))) | fail)
      rcases Bool.eq_false_or_eq_true ((decide (v17 ≠ 0))) with h6 | h6
      · rw [if_pos h6] at hr
        repeat (first | with_reducible refine mv ?_ | with_reducible refine m12 rfl ?_ | with_reducible refine TO.nil ?_ | ((with_reducible first | apply TO.bld | apply TO.mv | apply TO.sv | apply TO.asg); (repeat (focus (show _ = _; first | exact k1 rfl | exact k2 rfl | (simp only [zz, ty_filter_GainSquare, e_i, Nat.reduceAdd, Nat.reduceMul, Nat.reduceLeDiff, tbuild, tfill, h4, h6] <;> exact rfl) | exact rfl))); (with_reducible refine TO.here ?_)) | ((with_reducible apply TX.region); (focus (simp only [List.toList_toArray] <;> exact rfl)); (focus rfl); (try dsimp only)) | ((with_reducible apply TX.cond_true); (focus rfl); (focus (first | rfl | (simp only [z1, Bool.not_true, Bool.not_false, h4, h6]; done)))) | ((with_reducible apply TX.cond_false); (focus rfl); (focus (first | rfl | (simp only [z1, Bool.not_true, Bool.not_false, h4, h6]; done)))) | fail)
        cases hr
        refine ⟨.inr rfl, _, (by simp only [zy, ty_filter_GainSquare, e_i, tresAll, tres, tload, rowOf, partT, h4, h6]; exact rfl), ?_⟩
        exact Wk.ren [] rfl .nil (by (repeat (first | exact RNs.nil | refine RNs.cons .junk ?_ | refine RNs.cons (.keep rfl rfl) ?_ | refine RNs.cons (.lsl rfl rfl) ?_ | refine RNs.cons (.lsl rfl (by simp only [List.length_set])) ?_ | refine RNs.cons (.lptr rfl) ?_ | refine RNs.cons (.nil rfl) ?_ | refine RNs.cons .nl ?_ | refine RNs.cons (.keep (by simp only [h4, h6]) rfl) ?_ | refine RNs.cons (.tuple' ?_) ?_ | refine RNs.cons (.agg' ?_) ?_)))
      · rw [if_neg (by rw [h6]; exact Bool.false_ne_true)] at hr
        repeat (first | with_reducible refine mv ?_ | with_reducible refine m12 rfl ?_ | with_reducible refine TO.nil ?_ | ((with_reducible first | apply TO.fa | apply TO.ld); (repeat (focus (show _ = _; first | exact k1 rfl | exact k2 rfl | (simp only [zz, ty_filter_GainSquare, e_i, Nat.reduceAdd, Nat.reduceMul, Nat.reduceLeDiff, tfieldAddr, tload, rowOf, partT, List.getElem?_map, h4, h6] <;> exact rfl) | exact rfl))); (with_reducible refine TO.here ?_)) | ((with_reducible apply TX.region); (focus (simp only [List.toList_toArray] <;> exact rfl)); (focus rfl); (try dsimp only)) | ((with_reducible apply TX.cond_true); (focus rfl); (focus (first | rfl | (simp only [z1, Bool.not_true, Bool.not_false, h4, h6]; done)))) | ((with_reducible apply TX.cond_false); (focus rfl); (focus (first | rfl | (simp only [z1, Bool.not_true, Bool.not_false, h4, h6]; done)))) | fail)
        obtain ⟨⟨v18, v19⟩, h7, hr⟩ := Option.bind_eq_some_iff.1 hr
        try dsimp only at hr
        apply TO.cal (by first | rfl | (simp only [twant, z1, List.getElem?_toArray, Option.bind_some, h4, h6]; done)) rfl goFn76 (filter_lowest_spec h7) rfl rfl rfl
        (repeat (focus (show _ = _; first | exact k1 rfl | exact k2 rfl | (simp only [zz, ty_filter_GainSquare, e_i, Nat.reduceAdd, Nat.reduceMul, Nat.reduceLeDiff, shift, kill, killB, frz, frzB, view, tml, tmlc, List.length_set, h4, h6] <;> exact rfl) | exact rfl)))
        with_reducible apply TO.here
        repeat (first | with_reducible refine mv ?_ | with_reducible refine m12 rfl ?_ | with_reducible refine TO.nil ?_ | ((with_reducible first | apply TO.al | apply TO.sv | apply TO.fa | apply TO.ld); (repeat (focus (show _ = _; first | exact k1 rfl | exact k2 rfl | (simp only [zz, ty_filter_GainSquare, e_i, Nat.reduceAdd, Nat.reduceMul, Nat.reduceLeDiff, tfieldAddr, tload, rowOf, partT, List.getElem?_map, h4, h6] <;> exact rfl) | exact rfl))); (with_reducible refine TO.here ?_)) | ((with_reducible apply TX.region); (focus (simp only [List.toList_toArray] <;> exact rfl)); (focus rfl); (try dsimp only)) | fail)
        apply TO.pop1 (by first | rfl | (simp only [twant, z1, List.getElem?_toArray, Option.bind_some, h4, h6]; done)) (pop_max rfl rfl)
        (repeat (focus (show _ = _; first | exact k1 rfl | exact k2 rfl | (simp only [zz, ty_filter_GainSquare, e_i, Nat.reduceAdd, Nat.reduceMul, Nat.reduceLeDiff, h4, h6] <;> exact rfl) | exact rfl)))
        with_reducible apply TO.here
        repeat (first | with_reducible refine mv ?_ | with_reducible refine m12 rfl ?_ | with_reducible refine TO.nil ?_ | ((with_reducible first | apply TO.bin); (repeat (focus (show _ = _; first | exact k1 rfl | exact k2 rfl | (simp only [zz, ty_filter_GainSquare, e_i, Nat.reduceAdd, Nat.reduceMul, Nat.reduceLeDiff, h4, h6] <;> exact rfl) | exact rfl))); (with_reducible refine TO.here ?_)) | ((with_reducible apply TX.region); (focus (simp only [List.toList_toArray] <;> exact rfl)); (focus rfl); (try dsimp only)) | ((with_reducible apply TX.cond_true); (focus rfl); (focus (first | rfl | (simp only [z1, Bool.not_true, Bool.not_false, h4, h6]; done)))) | ((with_reducible apply TX.cond_false); (focus rfl); (focus (first | rfl | (simp only [z1, Bool.not_true, Bool.not_false, h4, h6]; done)))) | fail)
        rcases Bool.eq_false_or_eq_true ((decide ((if v19 > v18 then v19 else v18) > 1000000000))) with h8 | h8
        · rw [if_pos h8] at hr
          repeat (first | with_reducible refine mv ?_ | with_reducible refine m12 rfl ?_ | with_reducible refine TO.nil ?_ | ((with_reducible first | apply TO.bld | apply TO.sv | apply TO.asg); (repeat (focus (show _ = _; first | exact k1 rfl | exact k2 rfl | (simp only [zz, ty_filter_GainSquare, e_i, Nat.reduceAdd, Nat.reduceMul, Nat.reduceLeDiff, tbuild, tfill, h4, h6, h8] <;> exact rfl) | exact rfl))); (with_reducible refine TO.here ?_)) | ((with_reducible apply TX.region); (focus (simp only [List.toList_toArray] <;> exact rfl)); (focus rfl); (try dsimp only)) | ((with_reducible apply TX.cond_true); (focus rfl); (focus (first | rfl | (simp only [z1, Bool.not_true, Bool.not_false, h4, h6, h8]; done)))) | ((with_reducible apply TX.cond_false); (focus rfl); (focus (first | rfl | (simp only [z1, Bool.not_true, Bool.not_false, h4, h6, h8]; done)))) | fail)
          cases hr
          refine ⟨.inr rfl, _, (by simp only [zy, ty_filter_GainSquare, e_i, tresAll, tres, tload, rowOf, partT, h4, h6, h8]; exact rfl), ?_⟩
          exact Wk.ren [] rfl .nil (by (repeat (first | exact RNs.nil | refine RNs.cons .junk ?_ | refine RNs.cons (.keep rfl rfl) ?_ | refine RNs.cons (.lsl rfl rfl) ?_ | refine RNs.cons (.lsl rfl (by simp only [List.length_set])) ?_ | refine RNs.cons (.lptr rfl) ?_ | refine RNs.cons (.nil rfl) ?_ | refine RNs.cons .nl ?_ | refine RNs.cons (.keep (by simp only [h4, h6, h8]) rfl) ?_ | refine RNs.cons (.tuple' ?_) ?_ | refine RNs.cons (.agg' ?_) ?_)))
        · rw [if_neg (by rw [h8]; exact Bool.false_ne_true)] at hr
          repeat (first | with_reducible refine mv ?_ | with_reducible refine m12 rfl ?_ | with_reducible refine TO.nil ?_ | ((with_reducible first | apply TO.ld | apply TO.sv | apply TO.asg); (repeat (focus (show _ = _; first | exact k1 rfl | exact k2 rfl | (simp only [zz, ty_filter_GainSquare, e_i, Nat.reduceAdd, Nat.reduceMul, Nat.reduceLeDiff, tload, rowOf, partT, List.getElem?_map, h4, h6, h8] <;> exact rfl) | exact rfl))); (with_reducible refine TO.here ?_)) | ((with_reducible apply TX.region); (focus (simp only [List.toList_toArray] <;> exact rfl)); (focus rfl); (try dsimp only)) | ((with_reducible apply TX.cond_true); (focus rfl); (focus (first | rfl | (simp only [z1, Bool.not_true, Bool.not_false, h4, h6, h8]; done)))) | ((with_reducible apply TX.cond_false); (focus rfl); (focus (first | rfl | (simp only [z1, Bool.not_true, Bool.not_false, h4, h6, h8]; done)))) | fail)
          cases hr
          refine ⟨.inr rfl, _, (by simp only [zy, ty_filter_GainSquare, e_i, tresAll, tres, tload, rowOf, partT, h4, h6, h8]; exact rfl), ?_⟩
          exact Wk.ren [] rfl .nil (by (repeat (first | exact RNs.nil | refine RNs.cons .junk ?_ | refine RNs.cons (.keep rfl rfl) ?_ | refine RNs.cons (.lsl rfl rfl) ?_ | refine RNs.cons (.lsl rfl (by simp only [List.length_set])) ?_ | refine RNs.cons (.lptr rfl) ?_ | refine RNs.cons (.nil rfl) ?_ | refine RNs.cons .nl ?_ | refine RNs.cons (.keep (by simp only [h4, h6, h8]) rfl) ?_ | refine RNs.cons (.tuple' ?_) ?_ | refine RNs.cons (.agg' ?_) ?_)))
  rfl

end Go.Rex

namespace Go.Rex
open Go.Proofs
open Go Go.Rex Go.RowKit
set_option maxRecDepth 100000
theorem base_Within_spec {v1 : Int} {v2 : Int} {v3 : Int} {v4 : Bool} (hr : base_Within v1 v2 v3 = some (v4)) : Spec (lim Try.prog) 54 [.v (.int .i64 v1), .v (.int .i64 v2), .v (.int .i64 v3)] ⟨[.v (.bool v4)], []⟩ := by
  unfold base_Within at hr
  apply Spec.fn Try.func54 rfl
  focus (simp [Try.f54] <;> exact rfl)
  focus
    repeat (first | with_reducible refine mv ?_ | with_reducible refine m12 rfl ?_ | with_reducible refine TO.nil ?_ | ((with_reducible first | apply TO.asg | apply TO.mv | apply TO.bin); (repeat (focus (show _ = _; first | exact k1 rfl | exact k2 rfl | (simp only [zz, Nat.reduceAdd, Nat.reduceMul, Nat.reduceLeDiff] <;> exact rfl) | exact rfl))); (with_reducible refine TO.here ?_)) | ((with_reducible apply TX.region); (focus (simp only [List.toList_toArray] <;> exact rfl)); (focus rfl); (try dsimp only)) | fail)
    rcases Bool.eq_false_or_eq_true ((decide (v2 ≤ v1))) with h1 | h1
    · rw [if_pos h1] at hr
      repeat (first | with_reducible refine mv ?_ | with_reducible refine m12 rfl ?_ | with_reducible refine TO.nil ?_ | ((with_reducible first | apply TO.mv | apply TO.bin | apply TO.pk | apply TO.asg); (repeat (focus (show _ = _; first | exact k1 rfl | exact k2 rfl | (simp only [zz, Nat.reduceAdd, Nat.reduceMul, Nat.reduceLeDiff, h1] <;> exact rfl) | exact rfl))); (with_reducible refine TO.here ?_)) | ((with_reducible apply TX.region); (focus (simp only [List.toList_toArray] <;> exact rfl)); (focus rfl); (try dsimp only)) | fail)
      cases hr
      refine ⟨.inr rfl, _, (by simp only [zy, tresAll, tres, tload, rowOf, partT, h1]; exact rfl), ?_⟩
      exact Wk.ren [] rfl .nil (by (repeat (first | exact RNs.nil | refine RNs.cons .junk ?_ | refine RNs.cons (.keep rfl rfl) ?_ | refine RNs.cons (.lsl rfl rfl) ?_ | refine RNs.cons (.lsl rfl (by simp only [List.length_set])) ?_ | refine RNs.cons (.lptr rfl) ?_ | refine RNs.cons (.nil rfl) ?_ | refine RNs.cons .nl ?_ | refine RNs.cons (.keep (by simp only [h1]) rfl) ?_ | refine RNs.cons (.tuple' ?_) ?_ | refine RNs.cons (.agg' ?_) ?_)))
    · rw [if_neg (by rw [h1]; exact Bool.false_ne_true)] at hr
      repeat (first | with_reducible refine mv ?_ | with_reducible refine m12 rfl ?_ | with_reducible refine TO.nil ?_ | ((with_reducible first | apply TO.pk | apply TO.asg); (repeat (focus (show _ = _; first | exact k1 rfl | exact k2 rfl | (simp only [zz, Nat.reduceAdd, Nat.reduceMul, Nat.reduceLeDiff, h1] <;> exact rfl) | exact rfl))); (with_reducible refine TO.here ?_)) | ((with_reducible apply TO.skip1); (repeat (focus (show _ = _; first | exact k1 rfl | exact k2 rfl | (simp only [zz, Nat.reduceAdd, Nat.reduceMul, Nat.reduceLeDiff, twant, List.getElem?_toArray, Option.bind_some, h1] <;> exact rfl) | exact rfl))); (with_reducible refine TO.here ?_)) | ((with_reducible apply TX.region); (focus (simp only [List.toList_toArray] <;> exact rfl)); (focus rfl); (try dsimp only)) | fail)
      cases hr
      refine ⟨.inr rfl, _, (by simp only [zy, tresAll, tres, tload, rowOf, partT, h1]; exact rfl), ?_⟩
      exact Wk.ren [] rfl .nil (by (repeat (first | exact RNs.nil | refine RNs.cons .junk ?_ | refine RNs.cons (.keep rfl rfl) ?_ | refine RNs.cons (.lsl rfl rfl) ?_ | refine RNs.cons (.lsl rfl (by simp only [List.length_set])) ?_ | refine RNs.cons (.lptr rfl) ?_ | refine RNs.cons (.nil rfl) ?_ | refine RNs.cons .nl ?_ | refine RNs.cons (.keep (by simp only [h1]) rfl) ?_ | refine RNs.cons (.tuple' ?_) ?_ | refine RNs.cons (.agg' ?_) ?_)))
  rfl

end Go.Rex

namespace Go.Rex
open Go.Proofs
open Go Go.Rex Go.RowKit
set_option maxRecDepth 100000
def ty_ref06_CheckSection := an @ag3 <| an @ar23 <| an @ar24 <| an @cs3 <| an @fd26_0 <| an @fd26_1 <| an @ok3 <| an @so23 <| an @so24 <| an @so49 <| an @zc3 <| @wi64_1
theorem ref06_CheckSection_spec {v1 : Int} {v2 : Int} {v3 : Int} {v4 : Int} {v5 : Int} {v6 : Int} (hr : ref06_CheckSection v1 v2 v3 v4 v5 = some (v6)) : Spec (lim Try.prog) 24 [.agg [.v (.int .i64 v1), .v (.int .i64 v2), .v (.int .i64 v3), .v (.int .i64 v4), .v (.int .i64 v5)]] ⟨[.v (.int .i64 v6)], []⟩ := by
  unfold ref06_CheckSection at hr
  apply Spec.fn Try.func24 rfl
  focus (simp [Try.f24] <;> exact rfl)
  focus
    repeat (first | with_reducible refine mv ?_ | with_reducible refine m12 rfl ?_ | with_reducible refine TO.nil ?_ | ((with_reducible first | apply TO.bf | apply TO.asg | apply TO.fa | apply TO.ia | apply TO.ld); (repeat (focus (show _ = _; first | exact k1 rfl | exact k2 rfl | (simp only [zz, ty_ref06_CheckSection, e_i, Nat.reduceAdd, Nat.reduceMul, Nat.reduceLeDiff, tfieldAddr, tindexAddr, z5, Int.reduceToNat, Int.reduceLE, Int.reduceLT, Int.cast_ofNat_Int, tload, rowOf, partT, List.getElem?_map] <;> exact rfl) | exact rfl))); (with_reducible refine TO.here ?_)) | ((with_reducible apply TX.region); (focus (simp only [List.toList_toArray] <;> exact rfl)); (focus rfl); (try dsimp only)) | fail)
    apply TO.bm e_i ([v1, v2, v3, v4, v5] : List Int) (by first | rfl | (simp only [twant, z1, List.getElem?_toArray, Option.bind_some]; done)) rfl (by simp only [zz, ty_ref06_CheckSection, e_i, Nat.reduceAdd, Nat.reduceMul, Nat.reduceLeDiff, tslice, tparts]; exact rfl) rfl
    (repeat (focus (show _ = _; first | exact k1 rfl | exact k2 rfl | (simp only [zz, ty_ref06_CheckSection, e_i, Nat.reduceAdd, Nat.reduceMul, Nat.reduceLeDiff, tslice, tparts] <;> exact rfl) | exact rfl)))
    with_reducible apply TO.here
    repeat (first | with_reducible refine mv ?_ | with_reducible refine m12 rfl ?_ | with_reducible refine TO.nil ?_ | ((with_reducible first | apply TO.asg); (repeat (focus (show _ = _; first | exact k1 rfl | exact k2 rfl | (simp only [zz, ty_ref06_CheckSection, e_i, Nat.reduceAdd, Nat.reduceMul, Nat.reduceLeDiff] <;> exact rfl) | exact rfl))); (with_reducible refine TO.here ?_)) | ((with_reducible apply TX.region); (focus (simp only [List.toList_toArray] <;> exact rfl)); (focus rfl); (try dsimp only)) | fail)
    obtain ⟨v12, h9, hr⟩ := Option.bind_eq_some_iff.1 hr
    refine TX.loopE (step := ref06_CheckSection_l1 v1 v2 v3 v4 v5) (x := 0) h9 (fun v7 => ⟨.junk :: .junk :: .junk :: .list 1 (([v1, v2, v3, v4, v5] : List Int).map e_i) :: .v (.int .i64 v7) :: .junk :: .junk :: .junk :: .junk :: .junk :: .junk :: .junk :: .junk :: .junk :: .junk :: .junk :: .junk :: .junk :: .junk :: .junk :: .junk :: .junk :: .junk :: .junk :: .junk :: .junk :: .junk :: .junk :: .junk :: .junk :: .junk :: .junk :: .junk :: [], []⟩) (fun e => match e with | (.inl _) => (.ret, ⟨.junk :: .junk :: .v (.int .i64 2) :: .junk :: .junk :: .junk :: .junk :: .junk :: .junk :: .junk :: .junk :: .junk :: .junk :: .junk :: .junk :: .junk :: .junk :: .junk :: .junk :: .junk :: .junk :: .junk :: .junk :: .junk :: .junk :: .junk :: .junk :: .junk :: .junk :: .junk :: .junk :: .junk :: .junk :: [], []⟩) | (.inr _) => (.exit 0, ⟨.junk :: .junk :: .junk :: .junk :: .junk :: .junk :: .junk :: .junk :: .junk :: .junk :: .junk :: .junk :: .junk :: .junk :: .junk :: .junk :: .junk :: .junk :: .junk :: .junk :: .junk :: .junk :: .junk :: .junk :: .junk :: .junk :: .junk :: .junk :: .junk :: .junk :: .junk :: .junk :: .junk :: [], []⟩)) ?_ ?_ ?_ ?_
    · rintro v7 v0 hr
      dsimp only [ref06_CheckSection_l1] at hr
      try dsimp only
      repeat (first | with_reducible refine mv ?_ | with_reducible refine m12 rfl ?_ | with_reducible refine TO.nil ?_ | ((with_reducible first | apply TO.mv); (repeat (focus (show _ = _; first | exact k1 rfl | exact k2 rfl | (simp only [zz, ty_ref06_CheckSection, e_i, Nat.reduceAdd, Nat.reduceMul, Nat.reduceLeDiff] <;> exact rfl) | exact rfl))); (with_reducible refine TO.here ?_)) | ((with_reducible apply TX.region); (focus (simp only [List.toList_toArray] <;> exact rfl)); (focus rfl); (try dsimp only)) | fail)
      apply TO.len (p := .v (.int .i64 5)) (by first | rfl | (simp only [twant, z1, List.getElem?_toArray, Option.bind_some]; done))
      (repeat (focus (show _ = _; first | exact k1 rfl | exact k2 rfl | (simp only [zz, ty_ref06_CheckSection, e_i, Nat.reduceAdd, Nat.reduceMul, Nat.reduceLeDiff, tlen] <;> exact rfl) | exact rfl)))
      with_reducible apply TO.here
      repeat (first | with_reducible refine mv ?_ | with_reducible refine m12 rfl ?_ | with_reducible refine TO.nil ?_ | ((with_reducible first | apply TO.bin); (repeat (focus (show _ = _; first | exact k1 rfl | exact k2 rfl | (simp only [zz, ty_ref06_CheckSection, e_i, Nat.reduceAdd, Nat.reduceMul, Nat.reduceLeDiff] <;> exact rfl) | exact rfl))); (with_reducible refine TO.here ?_)) | ((with_reducible apply TX.region); (focus (simp only [List.toList_toArray] <;> exact rfl)); (focus rfl); (try dsimp only)) | ((with_reducible apply TX.cond_true); (focus rfl); (focus (first | rfl | (simp only [z1, Bool.not_true, Bool.not_false]; done)))) | ((with_reducible apply TX.cond_false); (focus rfl); (focus (first | rfl | (simp only [z1, Bool.not_true, Bool.not_false]; done)))) | fail)
      rcases Bool.eq_false_or_eq_true ((decide (v7 < 5))) with h5 | h5
      · rw [if_pos h5] at hr
        repeat (first | with_reducible refine mv ?_ | with_reducible refine m12 rfl ?_ | with_reducible refine TO.nil ?_ | ((with_reducible first | apply TO.mv); (repeat (focus (show _ = _; first | exact k1 rfl | exact k2 rfl | (simp only [zz, ty_ref06_CheckSection, e_i, Nat.reduceAdd, Nat.reduceMul, Nat.reduceLeDiff, h5] <;> exact rfl) | exact rfl))); (with_reducible refine TO.here ?_)) | ((with_reducible apply TX.region); (focus (simp only [List.toList_toArray] <;> exact rfl)); (focus rfl); (try dsimp only)) | ((with_reducible apply TX.cond_true); (focus rfl); (focus (first | rfl | (simp only [z1, Bool.not_true, Bool.not_false, h5]; done)))) | ((with_reducible apply TX.cond_false); (focus rfl); (focus (first | rfl | (simp only [z1, Bool.not_true, Bool.not_false, h5]; done)))) | fail)
        obtain ⟨v10, h6, hr⟩ := Option.bind_eq_some_iff.1 hr
        try dsimp only at hr
        have h6m := tidx_map (f := e_i) h6
        have h6l := getI_lt h6
        try simp only [List.length_set] at h6l
        have h6a := getI_at h6
        have h6n := h6m
        simp only [List.map_cons, List.map_nil, e_i] at h6n
        repeat (first | with_reducible refine mv ?_ | with_reducible refine m12 rfl ?_ | with_reducible refine TO.nil ?_ | ((with_reducible first | apply TO.ia | apply TO.ld); (repeat (focus (show _ = _; first | exact k1 rfl | exact k2 rfl | (simp only [zz, ty_ref06_CheckSection, e_i, Nat.reduceAdd, Nat.reduceMul, Nat.reduceLeDiff, tindexAddr, Nat.zero_add, tload, rowOf, partT, List.getElem?_map, h5, h6m, h6l, h6a, h6n] <;> exact rfl) | exact rfl))); (with_reducible refine TO.here ?_)) | ((with_reducible apply TX.region); (focus (simp only [List.toList_toArray] <;> exact rfl)); (focus rfl); (try dsimp only)) | fail)
        obtain ⟨v11, h7, hr⟩ := Option.bind_eq_some_iff.1 hr
        try dsimp only at hr
        apply TO.cal (by first | rfl | (simp only [twant, z1, List.getElem?_toArray, Option.bind_some, h5, h6m, h6l, h6a, h6n]; done)) rfl goFn54 (base_Within_spec h7) rfl rfl rfl
        (repeat (focus (show _ = _; first | exact k1 rfl | exact k2 rfl | (simp only [zz, ty_ref06_CheckSection, e_i, Nat.reduceAdd, Nat.reduceMul, Nat.reduceLeDiff, shift, kill, killB, frz, frzB, view, tml, tmlc, List.length_set, h5, h6m, h6l, h6a, h6n] <;> exact rfl) | exact rfl)))
        with_reducible apply TO.here
        repeat (first | with_reducible refine mv ?_ | with_reducible refine m12 rfl ?_ | with_reducible refine TO.nil ?_ | ((with_reducible apply TX.region); (focus (simp only [List.toList_toArray] <;> exact rfl)); (focus rfl); (try dsimp only)) | fail)
        apply TO.pop1 (by first | rfl | (simp only [twant, z1, List.getElem?_toArray, Option.bind_some, h5, h6m, h6l, h6a, h6n]; done)) (pop_not rfl)
        (repeat (focus (show _ = _; first | exact k1 rfl | exact k2 rfl | (simp only [zz, ty_ref06_CheckSection, e_i, Nat.reduceAdd, Nat.reduceMul, Nat.reduceLeDiff, h5, h6m, h6l, h6a, h6n] <;> exact rfl) | exact rfl)))
        with_reducible apply TO.here
        repeat (first | with_reducible refine mv ?_ | with_reducible refine m12 rfl ?_ | with_reducible refine TO.nil ?_ | ((with_reducible apply TX.region); (focus (simp only [List.toList_toArray] <;> exact rfl)); (focus rfl); (try dsimp only)) | ((with_reducible apply TX.cond_true); (focus rfl); (focus (first | rfl | (simp only [z1, Bool.not_true, Bool.not_false, h5, h6m, h6l, h6a, h6n]; done)))) | ((with_reducible apply TX.cond_false); (focus rfl); (focus (first | rfl | (simp only [z1, Bool.not_true, Bool.not_false, h5, h6m, h6l, h6a, h6n]; done)))) | fail)
        rcases Bool.eq_false_or_eq_true (v11) with h8 | h8
        · rw [if_pos h8] at hr
          repeat (first | with_reducible refine mv ?_ | with_reducible refine m12 rfl ?_ | with_reducible refine TO.nil ?_ | ((with_reducible first | apply TO.mv | apply TO.bin | apply TO.asg); (repeat (focus (show _ = _; first | exact k1 rfl | exact k2 rfl | (simp only [zz, ty_ref06_CheckSection, e_i, Nat.reduceAdd, Nat.reduceMul, Nat.reduceLeDiff, h5, h6m, h6l, h6a, h6n, h8] <;> exact rfl) | exact rfl))); (with_reducible refine TO.here ?_)) | ((with_reducible apply TX.region); (focus (simp only [List.toList_toArray] <;> exact rfl)); (focus rfl); (try dsimp only)) | ((with_reducible apply TX.cond_true); (focus rfl); (focus (first | rfl | (simp only [z1, Bool.not_true, Bool.not_false, h5, h6m, h6l, h6a, h6n, h8]; done)))) | ((with_reducible apply TX.cond_false); (focus rfl); (focus (first | rfl | (simp only [z1, Bool.not_true, Bool.not_false, h5, h6m, h6l, h6a, h6n, h8]; done)))) | fail)
          cases hr
          refine ⟨rfl, ?_⟩
          exact Wk.ren [] rfl .nil (by (repeat (first | exact RNs.nil | refine RNs.cons .junk ?_ | refine RNs.cons (.keep rfl rfl) ?_ | refine RNs.cons (.lsl rfl rfl) ?_ | refine RNs.cons (.lsl rfl (by simp only [List.length_set])) ?_ | refine RNs.cons (.lptr rfl) ?_ | refine RNs.cons (.nil rfl) ?_ | refine RNs.cons .nl ?_ | refine RNs.cons (.keep (by simp only [h5, h8]) rfl) ?_ | refine RNs.cons (.tuple' ?_) ?_ | refine RNs.cons (.agg' ?_) ?_)))
        · rw [if_neg (by rw [h8]; exact Bool.false_ne_true)] at hr
          repeat (first | with_reducible refine mv ?_ | with_reducible refine m12 rfl ?_ | with_reducible refine TO.nil ?_ | ((with_reducible first | apply TO.asg); (repeat (focus (show _ = _; first | exact k1 rfl | exact k2 rfl | (simp only [zz, ty_ref06_CheckSection, e_i, Nat.reduceAdd, Nat.reduceMul, Nat.reduceLeDiff, h5, h6m, h6l, h6a, h6n, h8] <;> exact rfl) | exact rfl))); (with_reducible refine TO.here ?_)) | ((with_reducible apply TX.region); (focus (simp only [List.toList_toArray] <;> exact rfl)); (focus rfl); (try dsimp only)) | ((with_reducible apply TX.cond_true); (focus rfl); (focus (first | rfl | (simp only [z1, Bool.not_true, Bool.not_false, h5, h6m, h6l, h6a, h6n, h8]; done)))) | ((with_reducible apply TX.cond_false); (focus rfl); (focus (first | rfl | (simp only [z1, Bool.not_true, Bool.not_false, h5, h6m, h6l, h6a, h6n, h8]; done)))) | fail)
          cases hr
          refine ⟨rfl, ?_⟩
          exact Wk.ren [] rfl .nil (by (repeat (first | exact RNs.nil | refine RNs.cons .junk ?_ | refine RNs.cons (.keep rfl rfl) ?_ | refine RNs.cons (.lsl rfl rfl) ?_ | refine RNs.cons (.lsl rfl (by simp only [List.length_set])) ?_ | refine RNs.cons (.lptr rfl) ?_ | refine RNs.cons (.nil rfl) ?_ | refine RNs.cons .nl ?_ | refine RNs.cons (.keep (by simp only [h5, h8]) rfl) ?_ | refine RNs.cons (.tuple' ?_) ?_ | refine RNs.cons (.agg' ?_) ?_)))
      · rw [if_neg (by rw [h5]; exact Bool.false_ne_true)] at hr
        repeat (first | with_reducible refine mv ?_ | with_reducible refine m12 rfl ?_ | ((with_reducible apply TX.cond_true); (focus rfl); (focus (first | rfl | (simp only [z1, Bool.not_true, Bool.not_false, h5]; done)))) | ((with_reducible apply TX.cond_false); (focus rfl); (focus (first | rfl | (simp only [z1, Bool.not_true, Bool.not_false, h5]; done)))) | fail)
        cases hr
        refine ⟨rfl, ?_⟩
        exact Wk.ren [] rfl .nil (by (repeat (first | exact RNs.nil | refine RNs.cons .junk ?_ | refine RNs.cons (.keep rfl rfl) ?_ | refine RNs.cons (.lsl rfl rfl) ?_ | refine RNs.cons (.lsl rfl (by simp only [List.length_set])) ?_ | refine RNs.cons (.lptr rfl) ?_ | refine RNs.cons (.nil rfl) ?_ | refine RNs.cons .nl ?_ | refine RNs.cons (.keep (by simp only [h5]) rfl) ?_ | refine RNs.cons (.tuple' ?_) ?_ | refine RNs.cons (.agg' ?_) ?_)))
    · intro e h; rcases e with _ | e <;> cases h
    · try dsimp only
      rcases v12 with _ | _
      · try dsimp only at hr
        try dsimp only
        repeat (first | with_reducible refine mv ?_ | with_reducible refine m12 rfl ?_ | fail)
        cases hr
        refine ⟨.inr rfl, _, (by simp only [zy, ty_ref06_CheckSection, e_i, tresAll, tres, tload, rowOf, partT]; exact rfl), ?_⟩
        exact wr [] rfl .nil
      · try dsimp only at hr
        try dsimp only
        repeat (first | with_reducible refine mv ?_ | with_reducible refine m12 rfl ?_ | with_reducible refine TO.nil ?_ | ((with_reducible first | apply TO.asg); (repeat (focus (show _ = _; first | exact k1 rfl | exact k2 rfl | (simp only [zz, ty_ref06_CheckSection, e_i, Nat.reduceAdd, Nat.reduceMul, Nat.reduceLeDiff] <;> exact rfl) | exact rfl))); (with_reducible refine TO.here ?_)) | ((with_reducible apply TX.region); (focus (simp only [List.toList_toArray] <;> exact rfl)); (focus rfl); (try dsimp only)) | fail)
        cases hr
        refine ⟨.inr rfl, _, (by simp only [zy, ty_ref06_CheckSection, e_i, tresAll, tres, tload, rowOf, partT]; exact rfl), ?_⟩
        exact wr [] rfl .nil
    · try dsimp only
      exact wr [] rfl .nil
  rfl

end Go.Rex

namespace Go.Rex
open Go.Proofs
open Go Go.Rex Go.RowKit
set_option maxRecDepth 100000
def ty_ref06_TurnErr := an @ag3 <| an @fd114_0 <| an @fd114_1 <| @fd114_2
theorem ref06_TurnErr_spec {v1 : Int} {v2 : Int} {v3 : Int} {v4 : Int} (hr : ref06_TurnErr v1 v2 v3 = some (v4)) : Spec (lim Try.prog) 63 [.agg [.v (.int .i64 v1), .v (.int .i64 v2), .v (.int .i64 v3)]] ⟨[.v (.int .i64 v4)], []⟩ := by
  unfold ref06_TurnErr at hr
  apply Spec.fn Try.func63 rfl
  focus (simp [Try.f63] <;> exact rfl)
  focus
    repeat (first | with_reducible refine mv ?_ | with_reducible refine m12 rfl ?_ | with_reducible refine TO.nil ?_ | ((with_reducible first | apply TO.bf | apply TO.asg | apply TO.fa | apply TO.ld); (repeat (focus (show _ = _; first | exact k1 rfl | exact k2 rfl | (simp only [zz, ty_ref06_TurnErr, Nat.reduceAdd, Nat.reduceMul, Nat.reduceLeDiff, tfieldAddr, tload, rowOf, partT, List.getElem?_map] <;> exact rfl) | exact rfl))); (with_reducible refine TO.here ?_)) | ((with_reducible apply TX.region); (focus (simp only [List.toList_toArray] <;> exact rfl)); (focus rfl); (try dsimp only)) | fail)
    obtain ⟨v5, h1, hr⟩ := Option.bind_eq_some_iff.1 hr
    try dsimp only at hr
    apply TO.cal (by first | rfl | (simp only [twant, z1, List.getElem?_toArray, Option.bind_some]; done)) rfl goFn54 (base_Within_spec h1) rfl rfl rfl
    (repeat (focus (show _ = _; first | exact k1 rfl | exact k2 rfl | (simp only [zz, ty_ref06_TurnErr, Nat.reduceAdd, Nat.reduceMul, Nat.reduceLeDiff, shift, kill, killB, frz, frzB, view, tml, tmlc, List.length_set] <;> exact rfl) | exact rfl)))
    with_reducible apply TO.here
    repeat (first | with_reducible refine mv ?_ | with_reducible refine m12 rfl ?_ | with_reducible refine TO.nil ?_ | ((with_reducible apply TX.region); (focus (simp only [List.toList_toArray] <;> exact rfl)); (focus rfl); (try dsimp only)) | fail)
    apply TO.pop1 (by first | rfl | (simp only [twant, z1, List.getElem?_toArray, Option.bind_some]; done)) (pop_not rfl)
    (repeat (focus (show _ = _; first | exact k1 rfl | exact k2 rfl | (simp only [zz, ty_ref06_TurnErr, Nat.reduceAdd, Nat.reduceMul, Nat.reduceLeDiff] <;> exact rfl) | exact rfl)))
    with_reducible apply TO.here
    repeat (first | with_reducible refine mv ?_ | with_reducible refine m12 rfl ?_ | with_reducible refine TO.nil ?_ | ((with_reducible apply TX.region); (focus (simp only [List.toList_toArray] <;> exact rfl)); (focus rfl); (try dsimp only)) | ((with_reducible apply TX.cond_true); (focus rfl); (focus (first | rfl | (simp only [z1, Bool.not_true, Bool.not_false]; done)))) | ((with_reducible apply TX.cond_false); (focus rfl); (focus (first | rfl | (simp only [z1, Bool.not_true, Bool.not_false]; done)))) | fail)
    rcases Bool.eq_false_or_eq_true (v5) with h2 | h2
    · rw [if_pos h2] at hr
      repeat (first | with_reducible refine mv ?_ | with_reducible refine m12 rfl ?_ | with_reducible refine TO.nil ?_ | ((with_reducible first | apply TO.fa | apply TO.ld); (repeat (focus (show _ = _; first | exact k1 rfl | exact k2 rfl | (simp only [zz, ty_ref06_TurnErr, Nat.reduceAdd, Nat.reduceMul, Nat.reduceLeDiff, tfieldAddr, tload, rowOf, partT, List.getElem?_map, h2] <;> exact rfl) | exact rfl))); (with_reducible refine TO.here ?_)) | ((with_reducible apply TX.region); (focus (simp only [List.toList_toArray] <;> exact rfl)); (focus rfl); (try dsimp only)) | ((with_reducible apply TX.cond_true); (focus rfl); (focus (first | rfl | (simp only [z1, Bool.not_true, Bool.not_false, h2]; done)))) | ((with_reducible apply TX.cond_false); (focus rfl); (focus (first | rfl | (simp only [z1, Bool.not_true, Bool.not_false, h2]; done)))) | fail)
      apply TO.pop1 (by first | rfl | (simp only [twant, z1, List.getElem?_toArray, Option.bind_some, h2]; done)) (pop_neg rfl)
      (repeat (focus (show _ = _; first | exact k1 rfl | exact k2 rfl | (simp only [zz, ty_ref06_TurnErr, Nat.reduceAdd, Nat.reduceMul, Nat.reduceLeDiff, h2] <;> exact rfl) | exact rfl)))
      with_reducible apply TO.here
      repeat (first | with_reducible refine mv ?_ | with_reducible refine m12 rfl ?_ | with_reducible refine TO.nil ?_ | ((with_reducible first | apply TO.fa | apply TO.ld); (repeat (focus (show _ = _; first | exact k1 rfl | exact k2 rfl | (simp only [zz, ty_ref06_TurnErr, Nat.reduceAdd, Nat.reduceMul, Nat.reduceLeDiff, tfieldAddr, tload, rowOf, partT, List.getElem?_map, h2] <;> exact rfl) | exact rfl))); (with_reducible refine TO.here ?_)) | ((with_reducible apply TX.region); (focus (simp only [List.toList_toArray] <;> exact rfl)); (focus rfl); (try dsimp only)) | fail)
      obtain ⟨v6, h3, hr⟩ := Option.bind_eq_some_iff.1 hr
      try dsimp only at hr
      apply TO.cal (by first | rfl | (simp only [twant, z1, List.getElem?_toArray, Option.bind_some, h2]; done)) rfl goFn54 (base_Within_spec h3) rfl rfl rfl
      (repeat (focus (show _ = _; first | exact k1 rfl | exact k2 rfl | (simp only [zz, ty_ref06_TurnErr, Nat.reduceAdd, Nat.reduceMul, Nat.reduceLeDiff, shift, kill, killB, frz, frzB, view, tml, tmlc, List.length_set, h2] <;> exact rfl) | exact rfl)))
      with_reducible apply TO.here
      repeat (first | with_reducible refine mv ?_ | with_reducible refine m12 rfl ?_ | with_reducible refine TO.nil ?_ | ((with_reducible apply TX.region); (focus (simp only [List.toList_toArray] <;> exact rfl)); (focus rfl); (try dsimp only)) | fail)
      apply TO.pop1 (by first | rfl | (simp only [twant, z1, List.getElem?_toArray, Option.bind_some, h2]; done)) (pop_not rfl)
      (repeat (focus (show _ = _; first | exact k1 rfl | exact k2 rfl | (simp only [zz, ty_ref06_TurnErr, Nat.reduceAdd, Nat.reduceMul, Nat.reduceLeDiff, h2] <;> exact rfl) | exact rfl)))
      with_reducible apply TO.here
      repeat (first | with_reducible refine mv ?_ | with_reducible refine m12 rfl ?_ | with_reducible refine TO.nil ?_ | ((with_reducible first | apply TO.mv); (repeat (focus (show _ = _; first | exact k1 rfl | exact k2 rfl | (simp only [zz, ty_ref06_TurnErr, Nat.reduceAdd, Nat.reduceMul, Nat.reduceLeDiff, h2] <;> exact rfl) | exact rfl))); (with_reducible refine TO.here ?_)) | ((with_reducible apply TX.region); (focus (simp only [List.toList_toArray] <;> exact rfl)); (focus rfl); (try dsimp only)) | fail)
      rcases Bool.eq_false_or_eq_true (v6) with h4 | h4
      · rw [if_pos h4] at hr
        repeat (first | with_reducible refine mv ?_ | with_reducible refine m12 rfl ?_ | with_reducible refine TO.nil ?_ | ((with_reducible first | apply TO.fa | apply TO.ld); (repeat (focus (show _ = _; first | exact k1 rfl | exact k2 rfl | (simp only [zz, ty_ref06_TurnErr, Nat.reduceAdd, Nat.reduceMul, Nat.reduceLeDiff, tfieldAddr, tload, rowOf, partT, List.getElem?_map, h2, h4] <;> exact rfl) | exact rfl))); (with_reducible refine TO.here ?_)) | ((with_reducible apply TX.region); (focus (simp only [List.toList_toArray] <;> exact rfl)); (focus rfl); (try dsimp only)) | fail)
        apply TO.pop1 (by first | rfl | (simp only [twant, z1, List.getElem?_toArray, Option.bind_some, h2, h4]; done)) (pop_neg rfl)
        (repeat (focus (show _ = _; first | exact k1 rfl | exact k2 rfl | (simp only [zz, ty_ref06_TurnErr, Nat.reduceAdd, Nat.reduceMul, Nat.reduceLeDiff, h2, h4] <;> exact rfl) | exact rfl)))
        with_reducible apply TO.here
        repeat (first | with_reducible refine mv ?_ | with_reducible refine m12 rfl ?_ | with_reducible refine TO.nil ?_ | ((with_reducible first | apply TO.fa | apply TO.ld); (repeat (focus (show _ = _; first | exact k1 rfl | exact k2 rfl | (simp only [zz, ty_ref06_TurnErr, Nat.reduceAdd, Nat.reduceMul, Nat.reduceLeDiff, tfieldAddr, tload, rowOf, partT, List.getElem?_map, h2, h4] <;> exact rfl) | exact rfl))); (with_reducible refine TO.here ?_)) | ((with_reducible apply TX.region); (focus (simp only [List.toList_toArray] <;> exact rfl)); (focus rfl); (try dsimp only)) | fail)
        obtain ⟨v7, h5, hr⟩ := Option.bind_eq_some_iff.1 hr
        try dsimp only at hr
        apply TO.cal (by first | rfl | (simp only [twant, z1, List.getElem?_toArray, Option.bind_some, h2, h4]; done)) rfl goFn54 (base_Within_spec h5) rfl rfl rfl
        (repeat (focus (show _ = _; first | exact k1 rfl | exact k2 rfl | (simp only [zz, ty_ref06_TurnErr, Nat.reduceAdd, Nat.reduceMul, Nat.reduceLeDiff, shift, kill, killB, frz, frzB, view, tml, tmlc, List.length_set, h2, h4] <;> exact rfl) | exact rfl)))
        with_reducible apply TO.here
        repeat (first | with_reducible refine mv ?_ | with_reducible refine m12 rfl ?_ | with_reducible refine TO.nil ?_ | ((with_reducible apply TX.region); (focus (simp only [List.toList_toArray] <;> exact rfl)); (focus rfl); (try dsimp only)) | fail)
        apply TO.pop1 (by first | rfl | (simp only [twant, z1, List.getElem?_toArray, Option.bind_some, h2, h4]; done)) (pop_not rfl)
        (repeat (focus (show _ = _; first | exact k1 rfl | exact k2 rfl | (simp only [zz, ty_ref06_TurnErr, Nat.reduceAdd, Nat.reduceMul, Nat.reduceLeDiff, h2, h4] <;> exact rfl) | exact rfl)))
        with_reducible apply TO.here
        repeat (first | with_reducible refine mv ?_ | with_reducible refine m12 rfl ?_ | with_reducible refine TO.nil ?_ | ((with_reducible first | apply TO.pk | apply TO.mv); (repeat (focus (show _ = _; first | exact k1 rfl | exact k2 rfl | (simp only [zz, ty_ref06_TurnErr, Nat.reduceAdd, Nat.reduceMul, Nat.reduceLeDiff, h2, h4] <;> exact rfl) | exact rfl))); (with_reducible refine TO.here ?_)) | ((with_reducible apply TX.region); (focus (simp only [List.toList_toArray] <;> exact rfl)); (focus rfl); (try dsimp only)) | fail)
        rcases Bool.eq_false_or_eq_true (v7) with h6 | h6
        · rw [if_pos h6] at hr
          repeat (first | with_reducible refine mv ?_ | with_reducible refine m12 rfl ?_ | with_reducible refine TO.nil ?_ | ((with_reducible first | apply TO.fa | apply TO.ld | apply TO.bin | apply TO.pk); (repeat (focus (show _ = _; first | exact k1 rfl | exact k2 rfl | (simp only [zz, ty_ref06_TurnErr, Nat.reduceAdd, Nat.reduceMul, Nat.reduceLeDiff, tfieldAddr, tload, rowOf, partT, List.getElem?_map, h2, h4, h6] <;> exact rfl) | exact rfl))); (with_reducible refine TO.here ?_)) | ((with_reducible apply TX.region); (focus (simp only [List.toList_toArray] <;> exact rfl)); (focus rfl); (try dsimp only)) | ((with_reducible apply TX.cond_true); (focus rfl); (focus (first | rfl | (simp only [z1, Bool.not_true, Bool.not_false, h2, h4, h6]; done)))) | ((with_reducible apply TX.cond_false); (focus rfl); (focus (first | rfl | (simp only [z1, Bool.not_true, Bool.not_false, h2, h4, h6]; done)))) | fail)
          rcases Bool.eq_false_or_eq_true ((decide ((IntKind.i64.wrap ((IntKind.i64.wrap (v1 * v1)) + (IntKind.i64.wrap (v2 * v2)))) ≠ (IntKind.i64.wrap (v3 * v3))))) with h7 | h7
          · rw [if_pos h7] at hr
            repeat (first | with_reducible refine mv ?_ | with_reducible refine m12 rfl ?_ | with_reducible refine TO.nil ?_ | ((with_reducible first | apply TO.asg); (repeat (focus (show _ = _; first | exact k1 rfl | exact k2 rfl | (simp only [zz, ty_ref06_TurnErr, Nat.reduceAdd, Nat.reduceMul, Nat.reduceLeDiff, h2, h4, h6, h7] <;> exact rfl) | exact rfl))); (with_reducible refine TO.here ?_)) | ((with_reducible apply TX.region); (focus (simp only [List.toList_toArray] <;> exact rfl)); (focus rfl); (try dsimp only)) | ((with_reducible apply TX.cond_true); (focus rfl); (focus (first | rfl | (simp only [z1, Bool.not_true, Bool.not_false, h2, h4, h6, h7]; done)))) | ((with_reducible apply TX.cond_false); (focus rfl); (focus (first | rfl | (simp only [z1, Bool.not_true, Bool.not_false, h2, h4, h6, h7]; done)))) | fail)
            cases hr
            refine ⟨.inr rfl, _, (by simp only [zy, ty_ref06_TurnErr, tresAll, tres, tload, rowOf, partT, h2, h4, h6, h7]; exact rfl), ?_⟩
            exact Wk.ren [] rfl .nil (by (repeat (first | exact RNs.nil | refine RNs.cons .junk ?_ | refine RNs.cons (.keep rfl rfl) ?_ | refine RNs.cons (.lsl rfl rfl) ?_ | refine RNs.cons (.lsl rfl (by simp only [List.length_set])) ?_ | refine RNs.cons (.lptr rfl) ?_ | refine RNs.cons (.nil rfl) ?_ | refine RNs.cons .nl ?_ | refine RNs.cons (.keep (by simp only [h2, h4, h6, h7]) rfl) ?_ | refine RNs.cons (.tuple' ?_) ?_ | refine RNs.cons (.agg' ?_) ?_)))
          · rw [if_neg (by rw [h7]; exact Bool.false_ne_true)] at hr
            repeat (first | with_reducible refine mv ?_ | with_reducible refine m12 rfl ?_ | with_reducible refine TO.nil ?_ | ((with_reducible first | apply TO.asg); (repeat (focus (show _ = _; first | exact k1 rfl | exact k2 rfl | (simp only [zz, ty_ref06_TurnErr, Nat.reduceAdd, Nat.reduceMul, Nat.reduceLeDiff, h2, h4, h6, h7] <;> exact rfl) | exact rfl))); (with_reducible refine TO.here ?_)) | ((with_reducible apply TX.region); (focus (simp only [List.toList_toArray] <;> exact rfl)); (focus rfl); (try dsimp only)) | ((with_reducible apply TX.cond_true); (focus rfl); (focus (first | rfl | (simp only [z1, Bool.not_true, Bool.not_false, h2, h4, h6, h7]; done)))) | ((with_reducible apply TX.cond_false); (focus rfl); (focus (first | rfl | (simp only [z1, Bool.not_true, Bool.not_false, h2, h4, h6, h7]; done)))) | fail)
            cases hr
            refine ⟨.inr rfl, _, (by simp only [zy, ty_ref06_TurnErr, tresAll, tres, tload, rowOf, partT, h2, h4, h6, h7]; exact rfl), ?_⟩
            exact Wk.ren [] rfl .nil (by (repeat (first | exact RNs.nil | refine RNs.cons .junk ?_ | refine RNs.cons (.keep rfl rfl) ?_ | refine RNs.cons (.lsl rfl rfl) ?_ | refine RNs.cons (.lsl rfl (by simp only [List.length_set])) ?_ | refine RNs.cons (.lptr rfl) ?_ | refine RNs.cons (.nil rfl) ?_ | refine RNs.cons .nl ?_ | refine RNs.cons (.keep (by simp only [h2, h4, h6, h7]) rfl) ?_ | refine RNs.cons (.tuple' ?_) ?_ | refine RNs.cons (.agg' ?_) ?_)))
        · rw [if_neg (by rw [h6]; exact Bool.false_ne_true)] at hr
          repeat (first | with_reducible refine mv ?_ | with_reducible refine m12 rfl ?_ | with_reducible refine TO.nil ?_ | ((with_reducible first | apply TO.pk | apply TO.asg); (repeat (focus (show _ = _; first | exact k1 rfl | exact k2 rfl | (simp only [zz, ty_ref06_TurnErr, Nat.reduceAdd, Nat.reduceMul, Nat.reduceLeDiff, h2, h4, h6] <;> exact rfl) | exact rfl))); (with_reducible refine TO.here ?_)) | ((with_reducible apply TO.skip1); (repeat (focus (show _ = _; first | exact k1 rfl | exact k2 rfl | (simp only [zz, ty_ref06_TurnErr, Nat.reduceAdd, Nat.reduceMul, Nat.reduceLeDiff, twant, List.getElem?_toArray, Option.bind_some, h2, h4, h6] <;> exact rfl) | exact rfl))); (with_reducible refine TO.here ?_)) | ((with_reducible apply TX.region); (focus (simp only [List.toList_toArray] <;> exact rfl)); (focus rfl); (try dsimp only)) | ((with_reducible apply TX.cond_true); (focus rfl); (focus (first | rfl | (simp only [z1, Bool.not_true, Bool.not_false, h2, h4, h6]; done)))) | ((with_reducible apply TX.cond_false); (focus rfl); (focus (first | rfl | (simp only [z1, Bool.not_true, Bool.not_false, h2, h4, h6]; done)))) | fail)
          cases hr
          refine ⟨.inr rfl, _, (by simp only [zy, ty_ref06_TurnErr, tresAll, tres, tload, rowOf, partT, h2, h4, h6]; exact rfl), ?_⟩
          exact Wk.ren [] rfl .nil (by (repeat (first | exact RNs.nil | refine RNs.cons .junk ?_ | refine RNs.cons (.keep rfl rfl) ?_ | refine RNs.cons (.lsl rfl rfl) ?_ | refine RNs.cons (.lsl rfl (by simp only [List.length_set])) ?_ | refine RNs.cons (.lptr rfl) ?_ | refine RNs.cons (.nil rfl) ?_ | refine RNs.cons .nl ?_ | refine RNs.cons (.keep (by simp only [h2, h4, h6]) rfl) ?_ | refine RNs.cons (.tuple' ?_) ?_ | refine RNs.cons (.agg' ?_) ?_)))
      · rw [if_neg (by rw [h4]; exact Bool.false_ne_true)] at hr
        repeat (first | with_reducible refine mv ?_ | with_reducible refine m12 rfl ?_ | with_reducible refine TO.nil ?_ | ((with_reducible first | apply TO.pk | apply TO.mv | apply TO.asg); (repeat (focus (show _ = _; first | exact k1 rfl | exact k2 rfl | (simp only [zz, ty_ref06_TurnErr, Nat.reduceAdd, Nat.reduceMul, Nat.reduceLeDiff, h2, h4] <;> exact rfl) | exact rfl))); (with_reducible refine TO.here ?_)) | ((with_reducible apply TO.skip1); (repeat (focus (show _ = _; first | exact k1 rfl | exact k2 rfl | (simp only [zz, ty_ref06_TurnErr, Nat.reduceAdd, Nat.reduceMul, Nat.reduceLeDiff, twant, List.getElem?_toArray, Option.bind_some, h2, h4] <;> exact rfl) | exact rfl))); (with_reducible refine TO.here ?_)) | ((with_reducible apply TX.region); (focus (simp only [List.toList_toArray] <;> exact rfl)); (focus rfl); (try dsimp only)) | ((with_reducible apply TX.cond_true); (focus rfl); (focus (first | rfl | (simp only [z1, Bool.not_true, Bool.not_false, h2, h4]; done)))) | ((with_reducible apply TX.cond_false); (focus rfl); (focus (first | rfl | (simp only [z1, Bool.not_true, Bool.not_false, h2, h4]; done)))) | fail)
        cases hr
        refine ⟨.inr rfl, _, (by simp only [zy, ty_ref06_TurnErr, tresAll, tres, tload, rowOf, partT, h2, h4]; exact rfl), ?_⟩
        exact Wk.ren [] rfl .nil (by (repeat (first | exact RNs.nil | refine RNs.cons .junk ?_ | refine RNs.cons (.keep rfl rfl) ?_ | refine RNs.cons (.lsl rfl rfl) ?_ | refine RNs.cons (.lsl rfl (by simp only [List.length_set])) ?_ | refine RNs.cons (.lptr rfl) ?_ | refine RNs.cons (.nil rfl) ?_ | refine RNs.cons .nl ?_ | refine RNs.cons (.keep (by simp only [h2, h4]) rfl) ?_ | refine RNs.cons (.tuple' ?_) ?_ | refine RNs.cons (.agg' ?_) ?_)))
    · rw [if_neg (by rw [h2]; exact Bool.false_ne_true)] at hr
      repeat (first | with_reducible refine mv ?_ | with_reducible refine m12 rfl ?_ | with_reducible refine TO.nil ?_ | ((with_reducible first | apply TO.asg); (repeat (focus (show _ = _; first | exact k1 rfl | exact k2 rfl | (simp only [zz, ty_ref06_TurnErr, Nat.reduceAdd, Nat.reduceMul, Nat.reduceLeDiff, h2] <;> exact rfl) | exact rfl))); (with_reducible refine TO.here ?_)) | ((with_reducible apply TX.region); (focus (simp only [List.toList_toArray] <;> exact rfl)); (focus rfl); (try dsimp only)) | ((with_reducible apply TX.cond_true); (focus rfl); (focus (first | rfl | (simp only [z1, Bool.not_true, Bool.not_false, h2]; done)))) | ((with_reducible apply TX.cond_false); (focus rfl); (focus (first | rfl | (simp only [z1, Bool.not_true, Bool.not_false, h2]; done)))) | fail)
      cases hr
      refine ⟨.inr rfl, _, (by simp only [zy, ty_ref06_TurnErr, tresAll, tres, tload, rowOf, partT, h2]; exact rfl), ?_⟩
      exact Wk.ren [] rfl .nil (by (repeat (first | exact RNs.nil | refine RNs.cons .junk ?_ | refine RNs.cons (.keep rfl rfl) ?_ | refine RNs.cons (.lsl rfl rfl) ?_ | refine RNs.cons (.lsl rfl (by simp only [List.length_set])) ?_ | refine RNs.cons (.lptr rfl) ?_ | refine RNs.cons (.nil rfl) ?_ | refine RNs.cons .nl ?_ | refine RNs.cons (.keep (by simp only [h2]) rfl) ?_ | refine RNs.cons (.tuple' ?_) ?_ | refine RNs.cons (.agg' ?_) ?_)))
  rfl

end Go.Rex

namespace Go.Rex
open Go.Proofs
open Go Go.Rex Go.RowKit
set_option maxRecDepth 100000
def ty_ref06_square := an @ag3 <| an @fd114_0 <| an @fd114_1 <| @fd114_2
theorem ref06_square_spec {v1 : Int} {v2 : Int} {v3 : Int} {v4 : Int} {v5 : Int} {v6 : Int} {v7 : Int} (hr : ref06_square v1 v2 v3 v4 v5 v6 = some (v7)) : Spec (lim Try.prog) 122 [.v (.int .i64 v1), .v (.int .i64 v2), .v (.int .i64 v3), .agg [.v (.int .i64 v4), .v (.int .i64 v5), .v (.int .i64 v6)]] ⟨[.v (.int .i64 v7)], []⟩ := by
  unfold ref06_square at hr
  apply Spec.fn Try.func122 rfl
  focus (simp [Try.f122] <;> exact rfl)
  focus
    repeat (first | with_reducible refine mv ?_ | with_reducible refine m12 rfl ?_ | with_reducible refine TO.nil ?_ | ((with_reducible first | apply TO.bf | apply TO.asg | apply TO.mv | apply TO.fa | apply TO.ld | apply TO.bin); (repeat (focus (show _ = _; first | exact k1 rfl | exact k2 rfl | (simp only [zz, ty_ref06_square, Nat.reduceAdd, Nat.reduceMul, Nat.reduceLeDiff, tfieldAddr, tload, rowOf, partT, List.getElem?_map] <;> exact rfl) | exact rfl))); (with_reducible refine TO.here ?_)) | ((with_reducible apply TX.region); (focus (simp only [List.toList_toArray] <;> exact rfl)); (focus rfl); (try dsimp only)) | fail)
    cases hr
    refine ⟨.inr rfl, _, (by simp only [zy, ty_ref06_square, tresAll, tres, tload, rowOf, partT]; exact rfl), ?_⟩
    exact wr [] rfl .nil
  rfl

end Go.Rex

namespace Go.Rex
open Go.Proofs
open Go Go.Rex Go.RowKit
set_option maxRecDepth 100000
def ty_ref06_Gain := an @ag114 <| an @ag3 <| an @ar23 <| an @ar24 <| an @cs114 <| an @cs3 <| an @fd26_0 <| an @fd26_1 <| an @ok114 <| an @ok3 <| an @so23 <| @so24
theorem ref06_Gain_spec {v1 : Int} {v2 : Int} {v3 : Int} {v4 : Int} {v5 : Int} {v6 : Int} {v7 : Int} {v8 : Int} {v9 : Int} {v10 : Int} (hr : ref06_Gain v1 v2 v3 v4 v5 v6 v7 v8 = some (v9, v10)) : Spec (lim Try.prog) 105 [.agg [.v (.int .i64 v1), .v (.int .i64 v2), .v (.int .i64 v3), .v (.int .i64 v4), .v (.int .i64 v5)], .agg [.v (.int .i64 v6), .v (.int .i64 v7), .v (.int .i64 v8)]] ⟨[.tuple [.v (.int .i64 v9), .v (.int .i64 v10)]], []⟩ := by
  unfold ref06_Gain at hr
  apply Spec.fn Try.func105 rfl
  focus (simp [Try.f105] <;> exact rfl)
  focus
    repeat (first | with_reducible refine mv ?_ | with_reducible refine m12 rfl ?_ | with_reducible refine TO.nil ?_ | ((with_reducible first | apply TO.bf | apply TO.asg); (repeat (focus (show _ = _; first | exact k1 rfl | exact k2 rfl | (simp only [zz, ty_ref06_Gain, Nat.reduceAdd, Nat.reduceMul, Nat.reduceLeDiff] <;> exact rfl) | exact rfl))); (with_reducible refine TO.here ?_)) | ((with_reducible apply TX.region); (focus (simp only [List.toList_toArray] <;> exact rfl)); (focus rfl); (try dsimp only)) | with_reducible refine TD.nil ?_ | ((with_reducible first | apply TD.fa | apply TD.ia | apply TD.ld | apply TD.ldw); (repeat (focus (show _ = _; first | exact k1 rfl | exact k2 rfl | (simp only [zz, ty_ref06_Gain, Nat.reduceAdd, Nat.reduceMul, Nat.reduceLeDiff, tfieldAddr, tindexAddr, z5, Int.reduceToNat, Int.reduceLE, Int.reduceLT, Int.cast_ofNat_Int, tload, rowOf, partT, List.getElem?_map] <;> exact rfl) | exact rfl))); (with_reducible refine TD.here ?_)) | ((with_reducible apply TX.drawn); (focus decide +kernel); (focus (simp only [List.toList_toArray] <;> exact rfl)); (focus exact rfl); (try dsimp only)) | fail)
    obtain ⟨v11, h1, hr⟩ := Option.bind_eq_some_iff.1 hr
    try dsimp only at hr
    first | apply TD.cal (by first | rfl | (simp only [twant, z1, List.getElem?_toArray, Option.bind_some]; done)) rfl goFn122 (ref06_square_spec h1) rfl rfl rfl | apply TD.calw (by first | rfl | (simp only [twant, z1, List.getElem?_toArray, Option.bind_some]; done)) rfl goFn122 (ref06_square_spec h1) rfl rfl rfl rfl
    (repeat (focus (show _ = _; first | exact k1 rfl | exact k2 rfl | (simp only [zz, ty_ref06_Gain, Nat.reduceAdd, Nat.reduceMul, Nat.reduceLeDiff, shift, kill, killB, frz, frzB, view, tml, tmlc, List.length_set] <;> exact rfl) | exact rfl)))
    with_reducible apply TD.here
    repeat (first | with_reducible refine mv ?_ | with_reducible refine m12 rfl ?_ | with_reducible refine TD.nil ?_ | ((with_reducible first | apply TD.fa | apply TD.ia | apply TD.ld | apply TD.ldw); (repeat (focus (show _ = _; first | exact k1 rfl | exact k2 rfl | (simp only [zz, ty_ref06_Gain, Nat.reduceAdd, Nat.reduceMul, Nat.reduceLeDiff, tfieldAddr, tindexAddr, z5, Int.reduceToNat, Int.reduceLE, Int.reduceLT, Int.cast_ofNat_Int, tload, rowOf, partT, List.getElem?_map] <;> exact rfl) | exact rfl))); (with_reducible refine TD.here ?_)) | ((with_reducible apply TX.drawn); (focus decide +kernel); (focus (simp only [List.toList_toArray] <;> exact rfl)); (focus exact rfl); (try dsimp only)) | fail)
    obtain ⟨v12, h2, hr⟩ := Option.bind_eq_some_iff.1 hr
    try dsimp only at hr
    first | apply TD.cal (by first | rfl | (simp only [twant, z1, List.getElem?_toArray, Option.bind_some]; done)) rfl goFn122 (ref06_square_spec h2) rfl rfl rfl | apply TD.calw (by first | rfl | (simp only [twant, z1, List.getElem?_toArray, Option.bind_some]; done)) rfl goFn122 (ref06_square_spec h2) rfl rfl rfl rfl
    (repeat (focus (show _ = _; first | exact k1 rfl | exact k2 rfl | (simp only [zz, ty_ref06_Gain, Nat.reduceAdd, Nat.reduceMul, Nat.reduceLeDiff, shift, kill, killB, frz, frzB, view, tml, tmlc, List.length_set] <;> exact rfl) | exact rfl)))
    with_reducible apply TD.here
    repeat (first | with_reducible refine mv ?_ | with_reducible refine m12 rfl ?_ | with_reducible refine TD.nil ?_ | ((with_reducible first | apply TD.asg); (repeat (focus (show _ = _; first | exact k1 rfl | exact k2 rfl | (simp only [zz, ty_ref06_Gain, Nat.reduceAdd, Nat.reduceMul, Nat.reduceLeDiff] <;> exact rfl) | exact rfl))); (with_reducible refine TD.here ?_)) | ((with_reducible apply TX.drawn); (focus decide +kernel); (focus (simp only [List.toList_toArray] <;> exact rfl)); (focus exact rfl); (try dsimp only)) | fail)
    cases hr
    refine ⟨.inr rfl, _, (by simp only [zy, ty_ref06_Gain, tresAll, tres, tload, rowOf, partT]; exact rfl), ?_⟩
    exact wr [] rfl .nil
  rfl

end Go.Rex

namespace Go.Rex
open Go.Proofs
open Go Go.Rex Go.RowKit
set_option maxRecDepth 100000
theorem base_Size_spec {v1 : Int} {v2 : Int} (hr : base_Size v1 = some (v2)) : Spec (lim Try.prog) 28 [.v (.int .i64 v1)] ⟨[.v (.int .i64 v2)], []⟩ := by
  unfold base_Size at hr
  apply Spec.fn Try.func28 rfl
  focus (simp [Try.f28] <;> exact rfl)
  focus
    repeat (first | with_reducible refine mv ?_ | with_reducible refine m12 rfl ?_ | with_reducible refine TO.nil ?_ | ((with_reducible first | apply TO.asg | apply TO.mv); (repeat (focus (show _ = _; first | exact k1 rfl | exact k2 rfl | (simp only [zz, Nat.reduceAdd, Nat.reduceMul, Nat.reduceLeDiff] <;> exact rfl) | exact rfl))); (with_reducible refine TO.here ?_)) | ((with_reducible apply TX.region); (focus (simp only [List.toList_toArray] <;> exact rfl)); (focus rfl); (try dsimp only)) | fail)
    apply TO.pop1 (by first | rfl | (simp only [twant, z1, List.getElem?_toArray, Option.bind_some]; done)) (pop_neg rfl)
    (repeat (focus (show _ = _; first | exact k1 rfl | exact k2 rfl | (simp only [zz, Nat.reduceAdd, Nat.reduceMul, Nat.reduceLeDiff] <;> exact rfl) | exact rfl)))
    with_reducible apply TO.here
    repeat (first | with_reducible refine mv ?_ | with_reducible refine m12 rfl ?_ | with_reducible refine TO.nil ?_ | ((with_reducible apply TX.region); (focus (simp only [List.toList_toArray] <;> exact rfl)); (focus rfl); (try dsimp only)) | fail)
    apply TO.pop1 (by first | rfl | (simp only [twant, z1, List.getElem?_toArray, Option.bind_some]; done)) (pop_max rfl rfl)
    (repeat (focus (show _ = _; first | exact k1 rfl | exact k2 rfl | (simp only [zz, Nat.reduceAdd, Nat.reduceMul, Nat.reduceLeDiff] <;> exact rfl) | exact rfl)))
    with_reducible apply TO.here
    repeat (first | with_reducible refine mv ?_ | with_reducible refine m12 rfl ?_ | with_reducible refine TO.nil ?_ | ((with_reducible first | apply TO.asg); (repeat (focus (show _ = _; first | exact k1 rfl | exact k2 rfl | (simp only [zz, Nat.reduceAdd, Nat.reduceMul, Nat.reduceLeDiff] <;> exact rfl) | exact rfl))); (with_reducible refine TO.here ?_)) | ((with_reducible apply TX.region); (focus (simp only [List.toList_toArray] <;> exact rfl)); (focus rfl); (try dsimp only)) | fail)
    cases hr
    refine ⟨.inr rfl, _, (by simp only [zy, tresAll, tres, tload, rowOf, partT]; exact rfl), ?_⟩
    exact wr [] rfl .nil
  rfl

end Go.Rex

namespace Go.Rex
open Go.Proofs
open Go Go.Rex Go.RowKit
set_option maxRecDepth 100000
theorem base_Gcd_spec {v1 : Int} {v2 : Int} {v3 : Int} (hr : base_Gcd v1 v2 = some (v3)) : Spec (lim Try.prog) 123 [.v (.int .i64 v1), .v (.int .i64 v2)] ⟨[.v (.int .i64 v3)], []⟩ := by
  unfold base_Gcd at hr
  apply Spec.fn Try.func123 rfl
  focus (simp [Try.f123] <;> exact rfl)
  focus
    repeat (first | with_reducible refine mv ?_ | with_reducible refine m12 rfl ?_ | with_reducible refine TO.nil ?_ | ((with_reducible first | apply TO.asg); (repeat (focus (show _ = _; first | exact k1 rfl | exact k2 rfl | (simp only [zz, Nat.reduceAdd, Nat.reduceMul, Nat.reduceLeDiff] <;> exact rfl) | exact rfl))); (with_reducible refine TO.here ?_)) | ((with_reducible apply TX.region); (focus (simp only [List.toList_toArray] <;> exact rfl)); (focus rfl); (try dsimp only)) | fail)
    obtain ⟨v7, h5, hr⟩ := Option.bind_eq_some_iff.1 hr
    try dsimp only at hr
    refine TX.loopE (step := base_Gcd_l1) (x := (v1, v2)) h5 (fun (v4, v5) => ⟨.v (.int .i64 v4) :: .v (.int .i64 v5) :: .junk :: .junk :: .junk :: .junk :: .junk :: .junk :: .junk :: .junk :: .junk :: .junk :: .junk :: [], []⟩) (fun v6 => (.exit 0, ⟨.v (.int .i64 v6) :: .junk :: .junk :: .junk :: .junk :: .junk :: .junk :: .junk :: .junk :: .junk :: .junk :: .junk :: .junk :: [], []⟩)) ?_ ?_ ?_ ?_
    · rintro ⟨v4, v5⟩ v0 hr
      dsimp only [base_Gcd_l1] at hr
      try dsimp only
      repeat (first | with_reducible refine mv ?_ | with_reducible refine m12 rfl ?_ | with_reducible refine TO.nil ?_ | ((with_reducible first | apply TO.mv | apply TO.bin); (repeat (focus (show _ = _; first | exact k1 rfl | exact k2 rfl | (simp only [zz, Nat.reduceAdd, Nat.reduceMul, Nat.reduceLeDiff] <;> exact rfl) | exact rfl))); (with_reducible refine TO.here ?_)) | ((with_reducible apply TX.region); (focus (simp only [List.toList_toArray] <;> exact rfl)); (focus rfl); (try dsimp only)) | ((with_reducible apply TX.cond_true); (focus rfl); (focus (first | rfl | (simp only [z1, Bool.not_true, Bool.not_false]; done)))) | ((with_reducible apply TX.cond_false); (focus rfl); (focus (first | rfl | (simp only [z1, Bool.not_true, Bool.not_false]; done)))) | fail)
      rcases Bool.eq_false_or_eq_true ((decide (v5 ≠ 0))) with h3 | h3
      · rw [if_pos h3] at hr
        repeat (first | with_reducible refine mv ?_ | with_reducible refine m12 rfl ?_ | with_reducible refine TD.nil ?_ | ((with_reducible first | apply TD.mv); (repeat (focus (show _ = _; first | exact k1 rfl | exact k2 rfl | (simp only [zz, Nat.reduceAdd, Nat.reduceMul, Nat.reduceLeDiff, h3] <;> exact rfl) | exact rfl))); (with_reducible refine TD.here ?_)) | ((with_reducible apply TX.drawn); (focus decide +kernel); (focus (simp only [List.toList_toArray] <;> exact rfl)); (focus exact rfl); (try dsimp only)) | ((with_reducible apply TX.cond_true); (focus rfl); (focus (first | rfl | (simp only [z1, Bool.not_true, Bool.not_false, h3]; done)))) | ((with_reducible apply TX.cond_false); (focus rfl); (focus (first | rfl | (simp only [z1, Bool.not_true, Bool.not_false, h3]; done)))) | fail)
        by_cases h4 : v5 = 0
        · rw [if_pos h4] at hr
          cases hr
        · rw [if_neg h4] at hr
          repeat (first | with_reducible refine mv ?_ | with_reducible refine m12 rfl ?_ | with_reducible refine TD.nil ?_ | ((with_reducible first | apply TD.bin | apply TD.asg); (repeat (focus (show _ = _; first | exact k1 rfl | exact k2 rfl | (simp only [zz, Nat.reduceAdd, Nat.reduceMul, Nat.reduceLeDiff, h3, h4] <;> exact rfl) | exact rfl))); (with_reducible refine TD.here ?_)) | ((with_reducible apply TX.drawn); (focus decide +kernel); (focus (simp only [List.toList_toArray] <;> exact rfl)); (focus exact rfl); (try dsimp only)) | fail)
          cases hr
          refine ⟨rfl, ?_⟩
          exact Wk.ren [] rfl .nil (by (repeat (first | exact RNs.nil | refine RNs.cons .junk ?_ | refine RNs.cons (.keep rfl rfl) ?_ | refine RNs.cons (.lsl rfl rfl) ?_ | refine RNs.cons (.lsl rfl (by simp only [List.length_set])) ?_ | refine RNs.cons (.lptr rfl) ?_ | refine RNs.cons (.nil rfl) ?_ | refine RNs.cons .nl ?_ | refine RNs.cons (.keep (by simp only [h3]) rfl) ?_ | refine RNs.cons (.tuple' ?_) ?_ | refine RNs.cons (.agg' ?_) ?_)))
      · rw [if_neg (by rw [h3]; exact Bool.false_ne_true)] at hr
        repeat (first | with_reducible refine mv ?_ | with_reducible refine m12 rfl ?_ | ((with_reducible apply TX.cond_true); (focus rfl); (focus (first | rfl | (simp only [z1, Bool.not_true, Bool.not_false, h3]; done)))) | ((with_reducible apply TX.cond_false); (focus rfl); (focus (first | rfl | (simp only [z1, Bool.not_true, Bool.not_false, h3]; done)))) | fail)
        cases hr
        refine ⟨rfl, ?_⟩
        exact Wk.ren [] rfl .nil (by (repeat (first | exact RNs.nil | refine RNs.cons .junk ?_ | refine RNs.cons (.keep rfl rfl) ?_ | refine RNs.cons (.lsl rfl rfl) ?_ | refine RNs.cons (.lsl rfl (by simp only [List.length_set])) ?_ | refine RNs.cons (.lptr rfl) ?_ | refine RNs.cons (.nil rfl) ?_ | refine RNs.cons .nl ?_ | refine RNs.cons (.keep (by simp only [h3]) rfl) ?_ | refine RNs.cons (.tuple' ?_) ?_ | refine RNs.cons (.agg' ?_) ?_)))
    · intro e h; cases h
    · try dsimp only
      repeat (first | with_reducible refine mv ?_ | with_reducible refine m12 rfl ?_ | with_reducible refine TO.nil ?_ | ((with_reducible first | apply TO.mv); (repeat (focus (show _ = _; first | exact k1 rfl | exact k2 rfl | (simp only [zz, Nat.reduceAdd, Nat.reduceMul, Nat.reduceLeDiff] <;> exact rfl) | exact rfl))); (with_reducible refine TO.here ?_)) | ((with_reducible apply TX.region); (focus (simp only [List.toList_toArray] <;> exact rfl)); (focus rfl); (try dsimp only)) | fail)
      obtain ⟨v8, h6, hr⟩ := Option.bind_eq_some_iff.1 hr
      try dsimp only at hr
      apply TO.cal (by first | rfl | (simp only [twant, z1, List.getElem?_toArray, Option.bind_some]; done)) rfl goFn28 (base_Size_spec h6) rfl rfl rfl
      (repeat (focus (show _ = _; first | exact k1 rfl | exact k2 rfl | (simp only [zz, Nat.reduceAdd, Nat.reduceMul, Nat.reduceLeDiff, shift, kill, killB, frz, frzB, view, tml, tmlc, List.length_set] <;> exact rfl) | exact rfl)))
      with_reducible apply TO.here
      repeat (first | with_reducible refine mv ?_ | with_reducible refine m12 rfl ?_ | with_reducible refine TO.nil ?_ | ((with_reducible first | apply TO.asg); (repeat (focus (show _ = _; first | exact k1 rfl | exact k2 rfl | (simp only [zz, Nat.reduceAdd, Nat.reduceMul, Nat.reduceLeDiff] <;> exact rfl) | exact rfl))); (with_reducible refine TO.here ?_)) | ((with_reducible apply TX.region); (focus (simp only [List.toList_toArray] <;> exact rfl)); (focus rfl); (try dsimp only)) | fail)
      cases hr
      refine ⟨.inr rfl, _, (by simp only [zy, tresAll, tres, tload, rowOf, partT]; exact rfl), ?_⟩
      exact wr [] rfl .nil
    · try dsimp only
      exact wr [] rfl .nil
  rfl

end Go.Rex

namespace Go.Rex
open Go.Proofs
open Go Go.Rex Go.RowKit
set_option maxRecDepth 100000
def ty_base_Lowest := an @ag38 <| an @cs38 <| an @ok38 <| an @st38 <| @zc38
theorem base_Lowest_spec {v1 : Int} {v2 : Int} {v3 : Int} {v4 : Int} (hr : base_Lowest v1 v2 = some (v3, v4)) : Spec (lim Try.prog) 106 [.v (.int .i64 v1), .v (.int .i64 v2)] ⟨[.agg [.v (.int .i64 v3), .v (.int .i64 v4)]], []⟩ := by
  unfold base_Lowest at hr
  apply Spec.fn Try.func106 rfl
  focus (simp [Try.f106] <;> exact rfl)
  focus
    repeat (first | with_reducible refine mv ?_ | with_reducible refine m12 rfl ?_ | with_reducible refine TO.nil ?_ | ((with_reducible first | apply TO.al | apply TO.mv); (repeat (focus (show _ = _; first | exact k1 rfl | exact k2 rfl | (simp only [zz, ty_base_Lowest, Nat.reduceAdd, Nat.reduceMul, Nat.reduceLeDiff] <;> exact rfl) | exact rfl))); (with_reducible refine TO.here ?_)) | ((with_reducible apply TX.region); (focus (simp only [List.toList_toArray] <;> exact rfl)); (focus rfl); (try dsimp only)) | fail)
    obtain ⟨v5, h1, hr⟩ := Option.bind_eq_some_iff.1 hr
    try dsimp only at hr
    apply TO.cal (by first | rfl | (simp only [twant, z1, List.getElem?_toArray, Option.bind_some]; done)) rfl goFn123 (base_Gcd_spec h1) rfl rfl rfl
    (repeat (focus (show _ = _; first | exact k1 rfl | exact k2 rfl | (simp only [zz, ty_base_Lowest, Nat.reduceAdd, Nat.reduceMul, Nat.reduceLeDiff, shift, kill, killB, frz, frzB, view, tml, tmlc, List.length_set] <;> exact rfl) | exact rfl)))
    with_reducible apply TO.here
    repeat (first | with_reducible refine mv ?_ | with_reducible refine m12 rfl ?_ | with_reducible refine TO.nil ?_ | ((with_reducible first | apply TO.asg | apply TO.mv | apply TO.bin); (repeat (focus (show _ = _; first | exact k1 rfl | exact k2 rfl | (simp only [zz, ty_base_Lowest, Nat.reduceAdd, Nat.reduceMul, Nat.reduceLeDiff] <;> exact rfl) | exact rfl))); (with_reducible refine TO.here ?_)) | ((with_reducible apply TX.region); (focus (simp only [List.toList_toArray] <;> exact rfl)); (focus rfl); (try dsimp only)) | ((with_reducible apply TX.cond_true); (focus rfl); (focus (first | rfl | (simp only [z1, Bool.not_true, Bool.not_false]; done)))) | ((with_reducible apply TX.cond_false); (focus rfl); (focus (first | rfl | (simp only [z1, Bool.not_true, Bool.not_false]; done)))) | fail)
    rcases Bool.eq_false_or_eq_true ((decide (v2 < 0))) with h2 | h2
    · rw [if_pos h2] at hr
      repeat (first | with_reducible refine mv ?_ | with_reducible refine m12 rfl ?_ | with_reducible refine TO.nil ?_ | ((with_reducible first | apply TO.mv); (repeat (focus (show _ = _; first | exact k1 rfl | exact k2 rfl | (simp only [zz, ty_base_Lowest, Nat.reduceAdd, Nat.reduceMul, Nat.reduceLeDiff, h2] <;> exact rfl) | exact rfl))); (with_reducible refine TO.here ?_)) | ((with_reducible apply TX.region); (focus (simp only [List.toList_toArray] <;> exact rfl)); (focus rfl); (try dsimp only)) | ((with_reducible apply TX.cond_true); (focus rfl); (focus (first | rfl | (simp only [z1, Bool.not_true, Bool.not_false, h2]; done)))) | ((with_reducible apply TX.cond_false); (focus rfl); (focus (first | rfl | (simp only [z1, Bool.not_true, Bool.not_false, h2]; done)))) | fail)
      apply TO.pop1 (by first | rfl | (simp only [twant, z1, List.getElem?_toArray, Option.bind_some, h2]; done)) (pop_neg rfl)
      (repeat (focus (show _ = _; first | exact k1 rfl | exact k2 rfl | (simp only [zz, ty_base_Lowest, Nat.reduceAdd, Nat.reduceMul, Nat.reduceLeDiff, h2] <;> exact rfl) | exact rfl)))
      with_reducible apply TO.here
      repeat (first | with_reducible refine mv ?_ | with_reducible refine m12 rfl ?_ | with_reducible refine TO.nil ?_ | ((with_reducible first | apply TO.asg); (repeat (focus (show _ = _; first | exact k1 rfl | exact k2 rfl | (simp only [zz, ty_base_Lowest, Nat.reduceAdd, Nat.reduceMul, Nat.reduceLeDiff, h2] <;> exact rfl) | exact rfl))); (with_reducible refine TO.here ?_)) | ((with_reducible apply TX.region); (focus (simp only [List.toList_toArray] <;> exact rfl)); (focus rfl); (try dsimp only)) | with_reducible refine TD.nil ?_ | ((with_reducible first | apply TD.mv); (repeat (focus (show _ = _; first | exact k1 rfl | exact k2 rfl | (simp only [zz, ty_base_Lowest, Nat.reduceAdd, Nat.reduceMul, Nat.reduceLeDiff, h2] <;> exact rfl) | exact rfl))); (with_reducible refine TD.here ?_)) | ((with_reducible apply TX.drawn); (focus decide +kernel); (focus (simp only [List.toList_toArray] <;> exact rfl)); (focus exact rfl); (try dsimp only)) | fail)
      by_cases h3 : (IntKind.i64.wrap (0 - v5)) = 0
      · rw [if_pos h3] at hr
        cases hr
      · rw [if_neg h3] at hr
        repeat (first | with_reducible refine mv ?_ | with_reducible refine m12 rfl ?_ | with_reducible refine TD.nil ?_ | ((with_reducible first | apply TD.bin | apply TD.mv | apply TD.bld | apply TD.sv); (repeat (focus (show _ = _; first | exact k1 rfl | exact k2 rfl | (simp only [zz, ty_base_Lowest, Nat.reduceAdd, Nat.reduceMul, Nat.reduceLeDiff, tbuild, tfill, h2, h3] <;> exact rfl) | exact rfl))); (with_reducible refine TD.here ?_)) | ((with_reducible apply TX.drawn); (focus decide +kernel); (focus (simp only [List.toList_toArray] <;> exact rfl)); (focus exact rfl); (try dsimp only)) | fail)
        cases hr
        refine ⟨.inr rfl, _, (by simp only [zy, ty_base_Lowest, tresAll, tres, tload, rowOf, partT, h2, h3]; exact rfl), ?_⟩
        exact Wk.ren [] rfl .nil (by (repeat (first | exact RNs.nil | refine RNs.cons .junk ?_ | refine RNs.cons (.keep rfl rfl) ?_ | refine RNs.cons (.lsl rfl rfl) ?_ | refine RNs.cons (.lsl rfl (by simp only [List.length_set])) ?_ | refine RNs.cons (.lptr rfl) ?_ | refine RNs.cons (.nil rfl) ?_ | refine RNs.cons .nl ?_ | refine RNs.cons (.keep (by simp only [h2]) rfl) ?_ | refine RNs.cons (.tuple' ?_) ?_ | refine RNs.cons (.agg' ?_) ?_)))
    · rw [if_neg (by rw [h2]; exact Bool.false_ne_true)] at hr
      repeat (first | with_reducible refine mv ?_ | with_reducible refine m12 rfl ?_ | with_reducible refine TD.nil ?_ | ((with_reducible first | apply TD.mv); (repeat (focus (show _ = _; first | exact k1 rfl | exact k2 rfl | (simp only [zz, ty_base_Lowest, Nat.reduceAdd, Nat.reduceMul, Nat.reduceLeDiff, h2] <;> exact rfl) | exact rfl))); (with_reducible refine TD.here ?_)) | ((with_reducible apply TX.drawn); (focus decide +kernel); (focus (simp only [List.toList_toArray] <;> exact rfl)); (focus exact rfl); (try dsimp only)) | ((with_reducible apply TX.cond_true); (focus rfl); (focus (first | rfl | (simp only [z1, Bool.not_true, Bool.not_false, h2]; done)))) | ((with_reducible apply TX.cond_false); (focus rfl); (focus (first | rfl | (simp only [z1, Bool.not_true, Bool.not_false, h2]; done)))) | fail)
      by_cases h4 : v5 = 0
      · rw [if_pos h4] at hr
        cases hr
      · rw [if_neg h4] at hr
        repeat (first | with_reducible refine mv ?_ | with_reducible refine m12 rfl ?_ | with_reducible refine TD.nil ?_ | ((with_reducible first | apply TD.bin | apply TD.mv | apply TD.bld | apply TD.sv); (repeat (focus (show _ = _; first | exact k1 rfl | exact k2 rfl | (simp only [zz, ty_base_Lowest, Nat.reduceAdd, Nat.reduceMul, Nat.reduceLeDiff, tbuild, tfill, h2, h4] <;> exact rfl) | exact rfl))); (with_reducible refine TD.here ?_)) | ((with_reducible apply TX.drawn); (focus decide +kernel); (focus (simp only [List.toList_toArray] <;> exact rfl)); (focus exact rfl); (try dsimp only)) | fail)
        cases hr
        refine ⟨.inr rfl, _, (by simp only [zy, ty_base_Lowest, tresAll, tres, tload, rowOf, partT, h2, h4]; exact rfl), ?_⟩
        exact Wk.ren [] rfl .nil (by (repeat (first | exact RNs.nil | refine RNs.cons .junk ?_ | refine RNs.cons (.keep rfl rfl) ?_ | refine RNs.cons (.lsl rfl rfl) ?_ | refine RNs.cons (.lsl rfl (by simp only [List.length_set])) ?_ | refine RNs.cons (.lptr rfl) ?_ | refine RNs.cons (.nil rfl) ?_ | refine RNs.cons .nl ?_ | refine RNs.cons (.keep (by simp only [h2]) rfl) ?_ | refine RNs.cons (.tuple' ?_) ?_ | refine RNs.cons (.agg' ?_) ?_)))
  rfl

end Go.Rex

namespace Go.Rex
open Go.Proofs
open Go Go.Rex Go.RowKit
set_option maxRecDepth 100000
def ty_base_IsSmall := an @ag3 <| an @fd38_0 <| @fd38_1
theorem base_IsSmall_spec {v1 : Int} {v2 : Int} {v3 : Bool} (hr : base_IsSmall v1 v2 = some (v3)) : Spec (lim Try.prog) 107 [.agg [.v (.int .i64 v1), .v (.int .i64 v2)]] ⟨[.v (.bool v3)], []⟩ := by
  unfold base_IsSmall at hr
  apply Spec.fn Try.func107 rfl
  focus (simp [Try.f107] <;> exact rfl)
  focus
    repeat (first | with_reducible refine mv ?_ | with_reducible refine m12 rfl ?_ | with_reducible refine TO.nil ?_ | ((with_reducible first | apply TO.bf | apply TO.asg | apply TO.fa | apply TO.ld); (repeat (focus (show _ = _; first | exact k1 rfl | exact k2 rfl | (simp only [zz, ty_base_IsSmall, Nat.reduceAdd, Nat.reduceMul, Nat.reduceLeDiff, tfieldAddr, tload, rowOf, partT, List.getElem?_map] <;> exact rfl) | exact rfl))); (with_reducible refine TO.here ?_)) | ((with_reducible apply TX.region); (focus (simp only [List.toList_toArray] <;> exact rfl)); (focus rfl); (try dsimp only)) | fail)
    obtain ⟨v4, h1, hr⟩ := Option.bind_eq_some_iff.1 hr
    try dsimp only at hr
    apply TO.cal (by first | rfl | (simp only [twant, z1, List.getElem?_toArray, Option.bind_some]; done)) rfl goFn54 (base_Within_spec h1) rfl rfl rfl
    (repeat (focus (show _ = _; first | exact k1 rfl | exact k2 rfl | (simp only [zz, ty_base_IsSmall, Nat.reduceAdd, Nat.reduceMul, Nat.reduceLeDiff, shift, kill, killB, frz, frzB, view, tml, tmlc, List.length_set] <;> exact rfl) | exact rfl)))
    with_reducible apply TO.here
    repeat (first | with_reducible refine mv ?_ | with_reducible refine m12 rfl ?_ | with_reducible refine TO.nil ?_ | ((with_reducible first | apply TO.mv); (repeat (focus (show _ = _; first | exact k1 rfl | exact k2 rfl | (simp only [zz, ty_base_IsSmall, Nat.reduceAdd, Nat.reduceMul, Nat.reduceLeDiff] <;> exact rfl) | exact rfl))); (with_reducible refine TO.here ?_)) | ((with_reducible apply TX.region); (focus (simp only [List.toList_toArray] <;> exact rfl)); (focus rfl); (try dsimp only)) | fail)
    rcases Bool.eq_false_or_eq_true (v4) with h2 | h2
    · rw [if_pos h2] at hr
      repeat (first | with_reducible refine mv ?_ | with_reducible refine m12 rfl ?_ | with_reducible refine TO.nil ?_ | ((with_reducible first | apply TO.fa | apply TO.ld); (repeat (focus (show _ = _; first | exact k1 rfl | exact k2 rfl | (simp only [zz, ty_base_IsSmall, Nat.reduceAdd, Nat.reduceMul, Nat.reduceLeDiff, tfieldAddr, tload, rowOf, partT, List.getElem?_map, h2] <;> exact rfl) | exact rfl))); (with_reducible refine TO.here ?_)) | ((with_reducible apply TX.region); (focus (simp only [List.toList_toArray] <;> exact rfl)); (focus rfl); (try dsimp only)) | fail)
      obtain ⟨v5, h3, hr⟩ := Option.bind_eq_some_iff.1 hr
      try dsimp only at hr
      apply TO.cal (by first | rfl | (simp only [twant, z1, List.getElem?_toArray, Option.bind_some, h2]; done)) rfl goFn54 (base_Within_spec h3) rfl rfl rfl
      (repeat (focus (show _ = _; first | exact k1 rfl | exact k2 rfl | (simp only [zz, ty_base_IsSmall, Nat.reduceAdd, Nat.reduceMul, Nat.reduceLeDiff, shift, kill, killB, frz, frzB, view, tml, tmlc, List.length_set, h2] <;> exact rfl) | exact rfl)))
      with_reducible apply TO.here
      repeat (first | with_reducible refine mv ?_ | with_reducible refine m12 rfl ?_ | with_reducible refine TO.nil ?_ | ((with_reducible first | apply TO.pk | apply TO.asg); (repeat (focus (show _ = _; first | exact k1 rfl | exact k2 rfl | (simp only [zz, ty_base_IsSmall, Nat.reduceAdd, Nat.reduceMul, Nat.reduceLeDiff, h2] <;> exact rfl) | exact rfl))); (with_reducible refine TO.here ?_)) | ((with_reducible apply TX.region); (focus (simp only [List.toList_toArray] <;> exact rfl)); (focus rfl); (try dsimp only)) | fail)
      cases hr
      refine ⟨.inr rfl, _, (by simp only [zy, ty_base_IsSmall, tresAll, tres, tload, rowOf, partT, h2]; exact rfl), ?_⟩
      exact Wk.ren [] rfl .nil (by (repeat (first | exact RNs.nil | refine RNs.cons .junk ?_ | refine RNs.cons (.keep rfl rfl) ?_ | refine RNs.cons (.lsl rfl rfl) ?_ | refine RNs.cons (.lsl rfl (by simp only [List.length_set])) ?_ | refine RNs.cons (.lptr rfl) ?_ | refine RNs.cons (.nil rfl) ?_ | refine RNs.cons .nl ?_ | refine RNs.cons (.keep (by simp only [h2]) rfl) ?_ | refine RNs.cons (.tuple' ?_) ?_ | refine RNs.cons (.agg' ?_) ?_)))
    · rw [if_neg (by rw [h2]; exact Bool.false_ne_true)] at hr
      repeat (first | with_reducible refine mv ?_ | with_reducible refine m12 rfl ?_ | with_reducible refine TO.nil ?_ | ((with_reducible first | apply TO.pk | apply TO.asg); (repeat (focus (show _ = _; first | exact k1 rfl | exact k2 rfl | (simp only [zz, ty_base_IsSmall, Nat.reduceAdd, Nat.reduceMul, Nat.reduceLeDiff, h2] <;> exact rfl) | exact rfl))); (with_reducible refine TO.here ?_)) | ((with_reducible apply TO.skip1); (repeat (focus (show _ = _; first | exact k1 rfl | exact k2 rfl | (simp only [zz, ty_base_IsSmall, Nat.reduceAdd, Nat.reduceMul, Nat.reduceLeDiff, twant, List.getElem?_toArray, Option.bind_some, h2] <;> exact rfl) | exact rfl))); (with_reducible refine TO.here ?_)) | ((with_reducible apply TX.region); (focus (simp only [List.toList_toArray] <;> exact rfl)); (focus rfl); (try dsimp only)) | fail)
      cases hr
      refine ⟨.inr rfl, _, (by simp only [zy, ty_base_IsSmall, tresAll, tres, tload, rowOf, partT, h2]; exact rfl), ?_⟩
      exact Wk.ren [] rfl .nil (by (repeat (first | exact RNs.nil | refine RNs.cons .junk ?_ | refine RNs.cons (.keep rfl rfl) ?_ | refine RNs.cons (.lsl rfl rfl) ?_ | refine RNs.cons (.lsl rfl (by simp only [List.length_set])) ?_ | refine RNs.cons (.lptr rfl) ?_ | refine RNs.cons (.nil rfl) ?_ | refine RNs.cons .nl ?_ | refine RNs.cons (.keep (by simp only [h2]) rfl) ?_ | refine RNs.cons (.tuple' ?_) ?_ | refine RNs.cons (.agg' ?_) ?_)))
  rfl

end Go.Rex
