/- Proofs that the program's functions do what these plain functions say. -/
import Derived.Test.YtojekkfmnnoabaaGB
import Derived.Test.YtojekkfmnnoabaaS
import Derived.Test.YtojekkfmnnoabaaG1
set_option linter.unusedSimpArgs false
set_option linter.unusedVariables false
set_option linter.defProp false
namespace Go.Rex
open Go.Proofs
open Go Go.Rex Go.RowKit
set_option maxRecDepth 100000
def ty_math_bits_Len64 := an @un172 <| an @un3 <| an @un5 <| an @us9 <| an @wi64_8 <| an @wi64_16 <| an @wi64_24 <| an @wi64_40 <| an @wi64_48 <| @wi64_56
theorem math_bits_Len64_spec {v1 : Int} {v2 : Int} (hr : math_bits_Len64 v1 = some (v2)) : Spec (lim Try.prog) 140 [.v (.int .u64 v1)] ⟨[.v (.int .i64 v2)], []⟩ := by
  unfold math_bits_Len64 at hr
  apply Spec.fn Try.func140 rfl
  focus (simp [Try.f140] <;> exact rfl)
  focus
    repeat (first | with_reducible refine mv ?_ | with_reducible refine m12 rfl ?_ | with_reducible refine TO.nil ?_ | ((with_reducible first | apply TO.asg | apply TO.mv | apply TO.bin); (repeat (focus (show _ = _; first | exact k1 rfl | exact k2 rfl | (simp only [zz, ty_math_bits_Len64, Nat.reduceAdd, Nat.reduceMul, Nat.reduceLeDiff] <;> exact rfl) | exact rfl))); (with_reducible refine TO.here ?_)) | ((with_reducible apply TX.region); (focus (simp only [List.toList_toArray] <;> exact rfl)); (focus rfl); (try dsimp only)) | ((with_reducible apply TX.cond_true); (focus rfl); (focus (first | rfl | (simp only [z1, Bool.not_true, Bool.not_false]; done)))) | ((with_reducible apply TX.cond_false); (focus rfl); (focus (first | rfl | (simp only [z1, Bool.not_true, Bool.not_false]; done)))) | fail)
    rcases Bool.eq_false_or_eq_true ((decide (v1 ≥ 4294967296))) with h1 | h1
    · rw [if_pos h1] at hr
      repeat (first | with_reducible refine mv ?_ | with_reducible refine m12 rfl ?_ | with_reducible refine TO.nil ?_ | ((with_reducible first | apply TO.mv); (repeat (focus (show _ = _; first | exact k1 rfl | exact k2 rfl | (simp only [zz, ty_math_bits_Len64, Nat.reduceAdd, Nat.reduceMul, Nat.reduceLeDiff, h1] <;> exact rfl) | exact rfl))); (with_reducible refine TO.here ?_)) | ((with_reducible apply TX.region); (focus (simp only [List.toList_toArray] <;> exact rfl)); (focus rfl); (try dsimp only)) | ((with_reducible apply TX.cond_true); (focus rfl); (focus (first | rfl | (simp only [z1, Bool.not_true, Bool.not_false, h1]; done)))) | ((with_reducible apply TX.cond_false); (focus rfl); (focus (first | rfl | (simp only [z1, Bool.not_true, Bool.not_false, h1]; done)))) | fail)
      obtain ⟨v3, h2, hr⟩ := Option.bind_eq_some_iff.1 hr
      try dsimp only at hr
      apply TO.pop1 (by first | rfl | (simp only [twant, z1, List.getElem?_toArray, Option.bind_some, h1]; done)) (pop_shift rfl rfl (by decide) (h2))
      (repeat (focus (show _ = _; first | exact k1 rfl | exact k2 rfl | (simp only [zz, ty_math_bits_Len64, Nat.reduceAdd, Nat.reduceMul, Nat.reduceLeDiff, h1] <;> exact rfl) | exact rfl)))
      with_reducible apply TO.here
      repeat (first | with_reducible refine mv ?_ | with_reducible refine m12 rfl ?_ | with_reducible refine TO.nil ?_ | ((with_reducible first | apply TO.asg | apply TO.mv | apply TO.bin); (repeat (focus (show _ = _; first | exact k1 rfl | exact k2 rfl | (simp only [zz, ty_math_bits_Len64, Nat.reduceAdd, Nat.reduceMul, Nat.reduceLeDiff, h1] <;> exact rfl) | exact rfl))); (with_reducible refine TO.here ?_)) | ((with_reducible apply TX.region); (focus (simp only [List.toList_toArray] <;> exact rfl)); (focus rfl); (try dsimp only)) | ((with_reducible apply TX.cond_true); (focus rfl); (focus (first | rfl | (simp only [z1, Bool.not_true, Bool.not_false, h1]; done)))) | ((with_reducible apply TX.cond_false); (focus rfl); (focus (first | rfl | (simp only [z1, Bool.not_true, Bool.not_false, h1]; done)))) | fail)
      rcases Bool.eq_false_or_eq_true ((decide (v3 ≥ 65536))) with h3 | h3
      · rw [if_pos h3] at hr
        repeat (first | with_reducible refine mv ?_ | with_reducible refine m12 rfl ?_ | with_reducible refine TO.nil ?_ | ((with_reducible first | apply TO.mv); (repeat (focus (show _ = _; first | exact k1 rfl | exact k2 rfl | (simp only [zz, ty_math_bits_Len64, Nat.reduceAdd, Nat.reduceMul, Nat.reduceLeDiff, h1, h3] <;> exact rfl) | exact rfl))); (with_reducible refine TO.here ?_)) | ((with_reducible apply TX.region); (focus (simp only [List.toList_toArray] <;> exact rfl)); (focus rfl); (try dsimp only)) | ((with_reducible apply TX.cond_true); (focus rfl); (focus (first | rfl | (simp only [z1, Bool.not_true, Bool.not_false, h1, h3]; done)))) | ((with_reducible apply TX.cond_false); (focus rfl); (focus (first | rfl | (simp only [z1, Bool.not_true, Bool.not_false, h1, h3]; done)))) | fail)
        obtain ⟨v4, h4, hr⟩ := Option.bind_eq_some_iff.1 hr
        try dsimp only at hr
        apply TO.pop1 (by first | rfl | (simp only [twant, z1, List.getElem?_toArray, Option.bind_some, h1, h3]; done)) (pop_shift rfl rfl (by decide) (h4))
        (repeat (focus (show _ = _; first | exact k1 rfl | exact k2 rfl | (simp only [zz, ty_math_bits_Len64, Nat.reduceAdd, Nat.reduceMul, Nat.reduceLeDiff, h1, h3] <;> exact rfl) | exact rfl)))
        with_reducible apply TO.here
        repeat (first | with_reducible refine mv ?_ | with_reducible refine m12 rfl ?_ | with_reducible refine TO.nil ?_ | ((with_reducible first | apply TO.asg | apply TO.mv | apply TO.bin); (repeat (focus (show _ = _; first | exact k1 rfl | exact k2 rfl | (simp only [zz, ty_math_bits_Len64, Nat.reduceAdd, Nat.reduceMul, Nat.reduceLeDiff, h1, h3] <;> exact rfl) | exact rfl))); (with_reducible refine TO.here ?_)) | ((with_reducible apply TX.region); (focus (simp only [List.toList_toArray] <;> exact rfl)); (focus rfl); (try dsimp only)) | ((with_reducible apply TX.cond_true); (focus rfl); (focus (first | rfl | (simp only [z1, Bool.not_true, Bool.not_false, h1, h3]; done)))) | ((with_reducible apply TX.cond_false); (focus rfl); (focus (first | rfl | (simp only [z1, Bool.not_true, Bool.not_false, h1, h3]; done)))) | fail)
        rcases Bool.eq_false_or_eq_true ((decide (v4 ≥ 256))) with h5 | h5
        · rw [if_pos h5] at hr
          repeat (first | with_reducible refine mv ?_ | with_reducible refine m12 rfl ?_ | with_reducible refine TO.nil ?_ | ((with_reducible first | apply TO.mv); (repeat (focus (show _ = _; first | exact k1 rfl | exact k2 rfl | (simp only [zz, ty_math_bits_Len64, Nat.reduceAdd, Nat.reduceMul, Nat.reduceLeDiff, h1, h3, h5] <;> exact rfl) | exact rfl))); (with_reducible refine TO.here ?_)) | ((with_reducible apply TX.region); (focus (simp only [List.toList_toArray] <;> exact rfl)); (focus rfl); (try dsimp only)) | ((with_reducible apply TX.cond_true); (focus rfl); (focus (first | rfl | (simp only [z1, Bool.not_true, Bool.not_false, h1, h3, h5]; done)))) | ((with_reducible apply TX.cond_false); (focus rfl); (focus (first | rfl | (simp only [z1, Bool.not_true, Bool.not_false, h1, h3, h5]; done)))) | fail)
          obtain ⟨v5, h6, hr⟩ := Option.bind_eq_some_iff.1 hr
          try dsimp only at hr
          apply TO.pop1 (by first | rfl | (simp only [twant, z1, List.getElem?_toArray, Option.bind_some, h1, h3, h5]; done)) (pop_shift rfl rfl (by decide) (h6))
          (repeat (focus (show _ = _; first | exact k1 rfl | exact k2 rfl | (simp only [zz, ty_math_bits_Len64, Nat.reduceAdd, Nat.reduceMul, Nat.reduceLeDiff, h1, h3, h5] <;> exact rfl) | exact rfl)))
          with_reducible apply TO.here
          repeat (first | with_reducible refine mv ?_ | with_reducible refine m12 rfl ?_ | with_reducible refine TO.nil ?_ | ((with_reducible first | apply TO.asg | apply TO.mv | apply TO.bin); (repeat (focus (show _ = _; first | exact k1 rfl | exact k2 rfl | (simp only [zz, ty_math_bits_Len64, Nat.reduceAdd, Nat.reduceMul, Nat.reduceLeDiff, h1, h3, h5] <;> exact rfl) | exact rfl))); (with_reducible refine TO.here ?_)) | ((with_reducible apply TX.region); (focus (simp only [List.toList_toArray] <;> exact rfl)); (focus rfl); (try dsimp only)) | fail)
          apply TO.pop1 (by first | rfl | (simp only [twant, z1, List.getElem?_toArray, Option.bind_some, h1, h3, h5]; done)) (cvt_int_int un172 un5 rfl)
          (repeat (focus (show _ = _; first | exact k1 rfl | exact k2 rfl | (simp only [zz, ty_math_bits_Len64, Nat.reduceAdd, Nat.reduceMul, Nat.reduceLeDiff, h1, h3, h5] <;> exact rfl) | exact rfl)))
          with_reducible apply TO.here
          repeat (first | with_reducible refine mv ?_ | with_reducible refine m12 rfl ?_ | with_reducible refine TO.nil ?_ | ((with_reducible apply TX.region); (focus (simp only [List.toList_toArray] <;> exact rfl)); (focus rfl); (try dsimp only)) | fail)
          obtain ⟨v6, h7, hr⟩ := Option.bind_eq_some_iff.1 hr
          try dsimp only at hr
          apply TO.pop1 (by first | rfl | (simp only [twant, z1, List.getElem?_toArray, Option.bind_some, h1, h3, h5]; done)) (pop_strix rfl rfl us9 h7)
          (repeat (focus (show _ = _; first | exact k1 rfl | exact k2 rfl | (simp only [zz, ty_math_bits_Len64, Nat.reduceAdd, Nat.reduceMul, Nat.reduceLeDiff, h1, h3, h5] <;> exact rfl) | exact rfl)))
          with_reducible apply TO.here
          repeat (first | with_reducible refine mv ?_ | with_reducible refine m12 rfl ?_ | with_reducible refine TO.nil ?_ | ((with_reducible apply TX.region); (focus (simp only [List.toList_toArray] <;> exact rfl)); (focus rfl); (try dsimp only)) | fail)
          apply TO.pop1 (by first | rfl | (simp only [twant, z1, List.getElem?_toArray, Option.bind_some, h1, h3, h5]; done)) (cvt_int_int un5 un3 rfl)
          (repeat (focus (show _ = _; first | exact k1 rfl | exact k2 rfl | (simp only [zz, ty_math_bits_Len64, Nat.reduceAdd, Nat.reduceMul, Nat.reduceLeDiff, h1, h3, h5] <;> exact rfl) | exact rfl)))
          with_reducible apply TO.here
          repeat (first | with_reducible refine mv ?_ | with_reducible refine m12 rfl ?_ | with_reducible refine TO.nil ?_ | ((with_reducible first | apply TO.bin | apply TO.asg); (repeat (focus (show _ = _; first | exact k1 rfl | exact k2 rfl | (simp only [zz, ty_math_bits_Len64, Nat.reduceAdd, Nat.reduceMul, Nat.reduceLeDiff, h1, h3, h5] <;> exact rfl) | exact rfl))); (with_reducible refine TO.here ?_)) | ((with_reducible apply TX.region); (focus (simp only [List.toList_toArray] <;> exact rfl)); (focus rfl); (try dsimp only)) | fail)
          cases hr
          refine ⟨.inr rfl, _, (by simp only [zy, ty_math_bits_Len64, tresAll, tres, tload, rowOf, partT, h1, h3, h5]; exact rfl), ?_⟩
          exact Wk.ren [] rfl .nil (by (repeat (first | exact RNs.nil | refine RNs.cons .junk ?_ | refine RNs.cons (.keep rfl rfl) ?_ | refine RNs.cons (.lsl rfl rfl) ?_ | refine RNs.cons (.lsl rfl (by simp only [List.length_set])) ?_ | refine RNs.cons (.lptr rfl) ?_ | refine RNs.cons (.nil rfl) ?_ | refine RNs.cons .nl ?_ | refine RNs.cons (.keep (by simp only [h1, h3, h5]) rfl) ?_ | refine RNs.cons (.tuple' ?_) ?_ | refine RNs.cons (.agg' ?_) ?_)))
        · rw [if_neg (by rw [h5]; exact Bool.false_ne_true)] at hr
          repeat (first | with_reducible refine mv ?_ | with_reducible refine m12 rfl ?_ | with_reducible refine TO.nil ?_ | ((with_reducible first | apply TO.mv); (repeat (focus (show _ = _; first | exact k1 rfl | exact k2 rfl | (simp only [zz, ty_math_bits_Len64, Nat.reduceAdd, Nat.reduceMul, Nat.reduceLeDiff, h1, h3, h5] <;> exact rfl) | exact rfl))); (with_reducible refine TO.here ?_)) | ((with_reducible apply TX.region); (focus (simp only [List.toList_toArray] <;> exact rfl)); (focus rfl); (try dsimp only)) | ((with_reducible apply TX.cond_true); (focus rfl); (focus (first | rfl | (simp only [z1, Bool.not_true, Bool.not_false, h1, h3, h5]; done)))) | ((with_reducible apply TX.cond_false); (focus rfl); (focus (first | rfl | (simp only [z1, Bool.not_true, Bool.not_false, h1, h3, h5]; done)))) | fail)
          apply TO.pop1 (by first | rfl | (simp only [twant, z1, List.getElem?_toArray, Option.bind_some, h1, h3, h5]; done)) (cvt_int_int un172 un5 rfl)
          (repeat (focus (show _ = _; first | exact k1 rfl | exact k2 rfl | (simp only [zz, ty_math_bits_Len64, Nat.reduceAdd, Nat.reduceMul, Nat.reduceLeDiff, h1, h3, h5] <;> exact rfl) | exact rfl)))
          with_reducible apply TO.here
          repeat (first | with_reducible refine mv ?_ | with_reducible refine m12 rfl ?_ | with_reducible refine TO.nil ?_ | ((with_reducible apply TX.region); (focus (simp only [List.toList_toArray] <;> exact rfl)); (focus rfl); (try dsimp only)) | fail)
          obtain ⟨v7, h8, hr⟩ := Option.bind_eq_some_iff.1 hr
          try dsimp only at hr
          apply TO.pop1 (by first | rfl | (simp only [twant, z1, List.getElem?_toArray, Option.bind_some, h1, h3, h5]; done)) (pop_strix rfl rfl us9 h8)
          (repeat (focus (show _ = _; first | exact k1 rfl | exact k2 rfl | (simp only [zz, ty_math_bits_Len64, Nat.reduceAdd, Nat.reduceMul, Nat.reduceLeDiff, h1, h3, h5] <;> exact rfl) | exact rfl)))
          with_reducible apply TO.here
          repeat (first | with_reducible refine mv ?_ | with_reducible refine m12 rfl ?_ | with_reducible refine TO.nil ?_ | ((with_reducible apply TX.region); (focus (simp only [List.toList_toArray] <;> exact rfl)); (focus rfl); (try dsimp only)) | fail)
          apply TO.pop1 (by first | rfl | (simp only [twant, z1, List.getElem?_toArray, Option.bind_some, h1, h3, h5]; done)) (cvt_int_int un5 un3 rfl)
          (repeat (focus (show _ = _; first | exact k1 rfl | exact k2 rfl | (simp only [zz, ty_math_bits_Len64, Nat.reduceAdd, Nat.reduceMul, Nat.reduceLeDiff, h1, h3, h5] <;> exact rfl) | exact rfl)))
          with_reducible apply TO.here
          repeat (first | with_reducible refine mv ?_ | with_reducible refine m12 rfl ?_ | with_reducible refine TO.nil ?_ | ((with_reducible first | apply TO.bin | apply TO.asg); (repeat (focus (show _ = _; first | exact k1 rfl | exact k2 rfl | (simp only [zz, ty_math_bits_Len64, Nat.reduceAdd, Nat.reduceMul, Nat.reduceLeDiff, h1, h3, h5] <;> exact rfl) | exact rfl))); (with_reducible refine TO.here ?_)) | ((with_reducible apply TX.region); (focus (simp only [List.toList_toArray] <;> exact rfl)); (focus rfl); (try dsimp only)) | fail)
          cases hr
          refine ⟨.inr rfl, _, (by simp only [zy, ty_math_bits_Len64, tresAll, tres, tload, rowOf, partT, h1, h3, h5]; exact rfl), ?_⟩
          exact Wk.ren [] rfl .nil (by (repeat (first | exact RNs.nil | refine RNs.cons .junk ?_ | refine RNs.cons (.keep rfl rfl) ?_ | refine RNs.cons (.lsl rfl rfl) ?_ | refine RNs.cons (.lsl rfl (by simp only [List.length_set])) ?_ | refine RNs.cons (.lptr rfl) ?_ | refine RNs.cons (.nil rfl) ?_ | refine RNs.cons .nl ?_ | refine RNs.cons (.keep (by simp only [h1, h3, h5]) rfl) ?_ | refine RNs.cons (.tuple' ?_) ?_ | refine RNs.cons (.agg' ?_) ?_)))
      · rw [if_neg (by rw [h3]; exact Bool.false_ne_true)] at hr
        repeat (first | with_reducible refine mv ?_ | with_reducible refine m12 rfl ?_ | with_reducible refine TO.nil ?_ | ((with_reducible first | apply TO.mv | apply TO.bin); (repeat (focus (show _ = _; first | exact k1 rfl | exact k2 rfl | (simp only [zz, ty_math_bits_Len64, Nat.reduceAdd, Nat.reduceMul, Nat.reduceLeDiff, h1, h3] <;> exact rfl) | exact rfl))); (with_reducible refine TO.here ?_)) | ((with_reducible apply TX.region); (focus (simp only [List.toList_toArray] <;> exact rfl)); (focus rfl); (try dsimp only)) | ((with_reducible apply TX.cond_true); (focus rfl); (focus (first | rfl | (simp only [z1, Bool.not_true, Bool.not_false, h1, h3]; done)))) | ((with_reducible apply TX.cond_false); (focus rfl); (focus (first | rfl | (simp only [z1, Bool.not_true, Bool.not_false, h1, h3]; done)))) | fail)
        rcases Bool.eq_false_or_eq_true ((decide (v3 ≥ 256))) with h9 | h9
        · rw [if_pos h9] at hr
          repeat (first | with_reducible refine mv ?_ | with_reducible refine m12 rfl ?_ | with_reducible refine TO.nil ?_ | ((with_reducible first | apply TO.mv); (repeat (focus (show _ = _; first | exact k1 rfl | exact k2 rfl | (simp only [zz, ty_math_bits_Len64, Nat.reduceAdd, Nat.reduceMul, Nat.reduceLeDiff, h1, h3, h9] <;> exact rfl) | exact rfl))); (with_reducible refine TO.here ?_)) | ((with_reducible apply TX.region); (focus (simp only [List.toList_toArray] <;> exact rfl)); (focus rfl); (try dsimp only)) | ((with_reducible apply TX.cond_true); (focus rfl); (focus (first | rfl | (simp only [z1, Bool.not_true, Bool.not_false, h1, h3, h9]; done)))) | ((with_reducible apply TX.cond_false); (focus rfl); (focus (first | rfl | (simp only [z1, Bool.not_true, Bool.not_false, h1, h3, h9]; done)))) | fail)
          obtain ⟨v8, h10, hr⟩ := Option.bind_eq_some_iff.1 hr
          try dsimp only at hr
          apply TO.pop1 (by first | rfl | (simp only [twant, z1, List.getElem?_toArray, Option.bind_some, h1, h3, h9]; done)) (pop_shift rfl rfl (by decide) (h10))
          (repeat (focus (show _ = _; first | exact k1 rfl | exact k2 rfl | (simp only [zz, ty_math_bits_Len64, Nat.reduceAdd, Nat.reduceMul, Nat.reduceLeDiff, h1, h3, h9] <;> exact rfl) | exact rfl)))
          with_reducible apply TO.here
          repeat (first | with_reducible refine mv ?_ | with_reducible refine m12 rfl ?_ | with_reducible refine TO.nil ?_ | ((with_reducible first | apply TO.asg | apply TO.mv | apply TO.bin); (repeat (focus (show _ = _; first | exact k1 rfl | exact k2 rfl | (simp only [zz, ty_math_bits_Len64, Nat.reduceAdd, Nat.reduceMul, Nat.reduceLeDiff, h1, h3, h9] <;> exact rfl) | exact rfl))); (with_reducible refine TO.here ?_)) | ((with_reducible apply TX.region); (focus (simp only [List.toList_toArray] <;> exact rfl)); (focus rfl); (try dsimp only)) | fail)
          apply TO.pop1 (by first | rfl | (simp only [twant, z1, List.getElem?_toArray, Option.bind_some, h1, h3, h9]; done)) (cvt_int_int un172 un5 rfl)
          (repeat (focus (show _ = _; first | exact k1 rfl | exact k2 rfl | (simp only [zz, ty_math_bits_Len64, Nat.reduceAdd, Nat.reduceMul, Nat.reduceLeDiff, h1, h3, h9] <;> exact rfl) | exact rfl)))
          with_reducible apply TO.here
          repeat (first | with_reducible refine mv ?_ | with_reducible refine m12 rfl ?_ | with_reducible refine TO.nil ?_ | ((with_reducible apply TX.region); (focus (simp only [List.toList_toArray] <;> exact rfl)); (focus rfl); (try dsimp only)) | fail)
          obtain ⟨v9, h11, hr⟩ := Option.bind_eq_some_iff.1 hr
          try dsimp only at hr
          apply TO.pop1 (by first | rfl | (simp only [twant, z1, List.getElem?_toArray, Option.bind_some, h1, h3, h9]; done)) (pop_strix rfl rfl us9 h11)
          (repeat (focus (show _ = _; first | exact k1 rfl | exact k2 rfl | (simp only [zz, ty_math_bits_Len64, Nat.reduceAdd, Nat.reduceMul, Nat.reduceLeDiff, h1, h3, h9] <;> exact rfl) | exact rfl)))
          with_reducible apply TO.here
          repeat (first | with_reducible refine mv ?_ | with_reducible refine m12 rfl ?_ | with_reducible refine TO.nil ?_ | ((with_reducible apply TX.region); (focus (simp only [List.toList_toArray] <;> exact rfl)); (focus rfl); (try dsimp only)) | fail)
          apply TO.pop1 (by first | rfl | (simp only [twant, z1, List.getElem?_toArray, Option.bind_some, h1, h3, h9]; done)) (cvt_int_int un5 un3 rfl)
          (repeat (focus (show _ = _; first | exact k1 rfl | exact k2 rfl | (simp only [zz, ty_math_bits_Len64, Nat.reduceAdd, Nat.reduceMul, Nat.reduceLeDiff, h1, h3, h9] <;> exact rfl) | exact rfl)))
          with_reducible apply TO.here
          repeat (first | with_reducible refine mv ?_ | with_reducible refine m12 rfl ?_ | with_reducible refine TO.nil ?_ | ((with_reducible first | apply TO.bin | apply TO.asg); (repeat (focus (show _ = _; first | exact k1 rfl | exact k2 rfl | (simp only [zz, ty_math_bits_Len64, Nat.reduceAdd, Nat.reduceMul, Nat.reduceLeDiff, h1, h3, h9] <;> exact rfl) | exact rfl))); (with_reducible refine TO.here ?_)) | ((with_reducible apply TX.region); (focus (simp only [List.toList_toArray] <;> exact rfl)); (focus rfl); (try dsimp only)) | fail)
          cases hr
          refine ⟨.inr rfl, _, (by simp only [zy, ty_math_bits_Len64, tresAll, tres, tload, rowOf, partT, h1, h3, h9]; exact rfl), ?_⟩
          exact Wk.ren [] rfl .nil (by (repeat (first | exact RNs.nil | refine RNs.cons .junk ?_ | refine RNs.cons (.keep rfl rfl) ?_ | refine RNs.cons (.lsl rfl rfl) ?_ | refine RNs.cons (.lsl rfl (by simp only [List.length_set])) ?_ | refine RNs.cons (.lptr rfl) ?_ | refine RNs.cons (.nil rfl) ?_ | refine RNs.cons .nl ?_ | refine RNs.cons (.keep (by simp only [h1, h3, h9]) rfl) ?_ | refine RNs.cons (.tuple' ?_) ?_ | refine RNs.cons (.agg' ?_) ?_)))
        · rw [if_neg (by rw [h9]; exact Bool.false_ne_true)] at hr
          repeat (first | with_reducible refine mv ?_ | with_reducible refine m12 rfl ?_ | with_reducible refine TO.nil ?_ | ((with_reducible first | apply TO.mv); (repeat (focus (show _ = _; first | exact k1 rfl | exact k2 rfl | (simp only [zz, ty_math_bits_Len64, Nat.reduceAdd, Nat.reduceMul, Nat.reduceLeDiff, h1, h3, h9] <;> exact rfl) | exact rfl))); (with_reducible refine TO.here ?_)) | ((with_reducible apply TX.region); (focus (simp only [List.toList_toArray] <;> exact rfl)); (focus rfl); (try dsimp only)) | ((with_reducible apply TX.cond_true); (focus rfl); (focus (first | rfl | (simp only [z1, Bool.not_true, Bool.not_false, h1, h3, h9]; done)))) | ((with_reducible apply TX.cond_false); (focus rfl); (focus (first | rfl | (simp only [z1, Bool.not_true, Bool.not_false, h1, h3, h9]; done)))) | fail)
          apply TO.pop1 (by first | rfl | (simp only [twant, z1, List.getElem?_toArray, Option.bind_some, h1, h3, h9]; done)) (cvt_int_int un172 un5 rfl)
          (repeat (focus (show _ = _; first | exact k1 rfl | exact k2 rfl | (simp only [zz, ty_math_bits_Len64, Nat.reduceAdd, Nat.reduceMul, Nat.reduceLeDiff, h1, h3, h9] <;> exact rfl) | exact rfl)))
          with_reducible apply TO.here
          repeat (first | with_reducible refine mv ?_ | with_reducible refine m12 rfl ?_ | with_reducible refine TO.nil ?_ | ((with_reducible apply TX.region); (focus (simp only [List.toList_toArray] <;> exact rfl)); (focus rfl); (try dsimp only)) | fail)
          obtain ⟨v10, h12, hr⟩ := Option.bind_eq_some_iff.1 hr
          try dsimp only at hr
          apply TO.pop1 (by first | rfl | (simp only [twant, z1, List.getElem?_toArray, Option.bind_some, h1, h3, h9]; done)) (pop_strix rfl rfl us9 h12)
          (repeat (focus (show _ = _; first | exact k1 rfl | exact k2 rfl | (simp only [zz, ty_math_bits_Len64, Nat.reduceAdd, Nat.reduceMul, Nat.reduceLeDiff, h1, h3, h9] <;> exact rfl) | exact rfl)))
          with_reducible apply TO.here
          repeat (first | with_reducible refine mv ?_ | with_reducible refine m12 rfl ?_ | with_reducible refine TO.nil ?_ | ((with_reducible apply TX.region); (focus (simp only [List.toList_toArray] <;> exact rfl)); (focus rfl); (try dsimp only)) | fail)
          apply TO.pop1 (by first | rfl | (simp only [twant, z1, List.getElem?_toArray, Option.bind_some, h1, h3, h9]; done)) (cvt_int_int un5 un3 rfl)
          (repeat (focus (show _ = _; first | exact k1 rfl | exact k2 rfl | (simp only [zz, ty_math_bits_Len64, Nat.reduceAdd, Nat.reduceMul, Nat.reduceLeDiff, h1, h3, h9] <;> exact rfl) | exact rfl)))
          with_reducible apply TO.here
          repeat (first | with_reducible refine mv ?_ | with_reducible refine m12 rfl ?_ | with_reducible refine TO.nil ?_ | ((with_reducible first | apply TO.bin | apply TO.asg); (repeat (focus (show _ = _; first | exact k1 rfl | exact k2 rfl | (simp only [zz, ty_math_bits_Len64, Nat.reduceAdd, Nat.reduceMul, Nat.reduceLeDiff, h1, h3, h9] <;> exact rfl) | exact rfl))); (with_reducible refine TO.here ?_)) | ((with_reducible apply TX.region); (focus (simp only [List.toList_toArray] <;> exact rfl)); (focus rfl); (try dsimp only)) | fail)
          cases hr
          refine ⟨.inr rfl, _, (by simp only [zy, ty_math_bits_Len64, tresAll, tres, tload, rowOf, partT, h1, h3, h9]; exact rfl), ?_⟩
          exact Wk.ren [] rfl .nil (by (repeat (first | exact RNs.nil | refine RNs.cons .junk ?_ | refine RNs.cons (.keep rfl rfl) ?_ | refine RNs.cons (.lsl rfl rfl) ?_ | refine RNs.cons (.lsl rfl (by simp only [List.length_set])) ?_ | refine RNs.cons (.lptr rfl) ?_ | refine RNs.cons (.nil rfl) ?_ | refine RNs.cons .nl ?_ | refine RNs.cons (.keep (by simp only [h1, h3, h9]) rfl) ?_ | refine RNs.cons (.tuple' ?_) ?_ | refine RNs.cons (.agg' ?_) ?_)))
    · rw [if_neg (by rw [h1]; exact Bool.false_ne_true)] at hr
      repeat (first | with_reducible refine mv ?_ | with_reducible refine m12 rfl ?_ | with_reducible refine TO.nil ?_ | ((with_reducible first | apply TO.mv | apply TO.bin); (repeat (focus (show _ = _; first | exact k1 rfl | exact k2 rfl | (simp only [zz, ty_math_bits_Len64, Nat.reduceAdd, Nat.reduceMul, Nat.reduceLeDiff, h1] <;> exact rfl) | exact rfl))); (with_reducible refine TO.here ?_)) | ((with_reducible apply TX.region); (focus (simp only [List.toList_toArray] <;> exact rfl)); (focus rfl); (try dsimp only)) | ((with_reducible apply TX.cond_true); (focus rfl); (focus (first | rfl | (simp only [z1, Bool.not_true, Bool.not_false, h1]; done)))) | ((with_reducible apply TX.cond_false); (focus rfl); (focus (first | rfl | (simp only [z1, Bool.not_true, Bool.not_false, h1]; done)))) | fail)
      rcases Bool.eq_false_or_eq_true ((decide (v1 ≥ 65536))) with h13 | h13
      · rw [if_pos h13] at hr
        repeat (first | with_reducible refine mv ?_ | with_reducible refine m12 rfl ?_ | with_reducible refine TO.nil ?_ | ((with_reducible first | apply TO.mv); (repeat (focus (show _ = _; first | exact k1 rfl | exact k2 rfl | (simp only [zz, ty_math_bits_Len64, Nat.reduceAdd, Nat.reduceMul, Nat.reduceLeDiff, h1, h13] <;> exact rfl) | exact rfl))); (with_reducible refine TO.here ?_)) | ((with_reducible apply TX.region); (focus (simp only [List.toList_toArray] <;> exact rfl)); (focus rfl); (try dsimp only)) | ((with_reducible apply TX.cond_true); (focus rfl); (focus (first | rfl | (simp only [z1, Bool.not_true, Bool.not_false, h1, h13]; done)))) | ((with_reducible apply TX.cond_false); (focus rfl); (focus (first | rfl | (simp only [z1, Bool.not_true, Bool.not_false, h1, h13]; done)))) | fail)
        obtain ⟨v11, h14, hr⟩ := Option.bind_eq_some_iff.1 hr
        try dsimp only at hr
        apply TO.pop1 (by first | rfl | (simp only [twant, z1, List.getElem?_toArray, Option.bind_some, h1, h13]; done)) (pop_shift rfl rfl (by decide) (h14))
        (repeat (focus (show _ = _; first | exact k1 rfl | exact k2 rfl | (simp only [zz, ty_math_bits_Len64, Nat.reduceAdd, Nat.reduceMul, Nat.reduceLeDiff, h1, h13] <;> exact rfl) | exact rfl)))
        with_reducible apply TO.here
        repeat (first | with_reducible refine mv ?_ | with_reducible refine m12 rfl ?_ | with_reducible refine TO.nil ?_ | ((with_reducible first | apply TO.asg | apply TO.mv | apply TO.bin); (repeat (focus (show _ = _; first | exact k1 rfl | exact k2 rfl | (simp only [zz, ty_math_bits_Len64, Nat.reduceAdd, Nat.reduceMul, Nat.reduceLeDiff, h1, h13] <;> exact rfl) | exact rfl))); (with_reducible refine TO.here ?_)) | ((with_reducible apply TX.region); (focus (simp only [List.toList_toArray] <;> exact rfl)); (focus rfl); (try dsimp only)) | ((with_reducible apply TX.cond_true); (focus rfl); (focus (first | rfl | (simp only [z1, Bool.not_true, Bool.not_false, h1, h13]; done)))) | ((with_reducible apply TX.cond_false); (focus rfl); (focus (first | rfl | (simp only [z1, Bool.not_true, Bool.not_false, h1, h13]; done)))) | fail)
        rcases Bool.eq_false_or_eq_true ((decide (v11 ≥ 256))) with h15 | h15
        · rw [if_pos h15] at hr
          repeat (first | with_reducible refine mv ?_ | with_reducible refine m12 rfl ?_ | with_reducible refine TO.nil ?_ | ((with_reducible first | apply TO.mv); (repeat (focus (show _ = _; first | exact k1 rfl | exact k2 rfl | (simp only [zz, ty_math_bits_Len64, Nat.reduceAdd, Nat.reduceMul, Nat.reduceLeDiff, h1, h13, h15] <;> exact rfl) | exact rfl))); (with_reducible refine TO.here ?_)) | ((with_reducible apply TX.region); (focus (simp only [List.toList_toArray] <;> exact rfl)); (focus rfl); (try dsimp only)) | ((with_reducible apply TX.cond_true); (focus rfl); (focus (first | rfl | (simp only [z1, Bool.not_true, Bool.not_false, h1, h13, h15]; done)))) | ((with_reducible apply TX.cond_false); (focus rfl); (focus (first | rfl | (simp only [z1, Bool.not_true, Bool.not_false, h1, h13, h15]; done)))) | fail)
          obtain ⟨v12, h16, hr⟩ := Option.bind_eq_some_iff.1 hr
          try dsimp only at hr
          apply TO.pop1 (by first | rfl | (simp only [twant, z1, List.getElem?_toArray, Option.bind_some, h1, h13, h15]; done)) (pop_shift rfl rfl (by decide) (h16))
          (repeat (focus (show _ = _; first | exact k1 rfl | exact k2 rfl | (simp only [zz, ty_math_bits_Len64, Nat.reduceAdd, Nat.reduceMul, Nat.reduceLeDiff, h1, h13, h15] <;> exact rfl) | exact rfl)))
          with_reducible apply TO.here
          repeat (first | with_reducible refine mv ?_ | with_reducible refine m12 rfl ?_ | with_reducible refine TO.nil ?_ | ((with_reducible first | apply TO.asg | apply TO.mv | apply TO.bin); (repeat (focus (show _ = _; first | exact k1 rfl | exact k2 rfl | (simp only [zz, ty_math_bits_Len64, Nat.reduceAdd, Nat.reduceMul, Nat.reduceLeDiff, h1, h13, h15] <;> exact rfl) | exact rfl))); (with_reducible refine TO.here ?_)) | ((with_reducible apply TX.region); (focus (simp only [List.toList_toArray] <;> exact rfl)); (focus rfl); (try dsimp only)) | fail)
          apply TO.pop1 (by first | rfl | (simp only [twant, z1, List.getElem?_toArray, Option.bind_some, h1, h13, h15]; done)) (cvt_int_int un172 un5 rfl)
          (repeat (focus (show _ = _; first | exact k1 rfl | exact k2 rfl | (simp only [zz, ty_math_bits_Len64, Nat.reduceAdd, Nat.reduceMul, Nat.reduceLeDiff, h1, h13, h15] <;> exact rfl) | exact rfl)))
          with_reducible apply TO.here
          repeat (first | with_reducible refine mv ?_ | with_reducible refine m12 rfl ?_ | with_reducible refine TO.nil ?_ | ((with_reducible apply TX.region); (focus (simp only [List.toList_toArray] <;> exact rfl)); (focus rfl); (try dsimp only)) | fail)
          obtain ⟨v13, h17, hr⟩ := Option.bind_eq_some_iff.1 hr
          try dsimp only at hr
          apply TO.pop1 (by first | rfl | (simp only [twant, z1, List.getElem?_toArray, Option.bind_some, h1, h13, h15]; done)) (pop_strix rfl rfl us9 h17)
          (repeat (focus (show _ = _; first | exact k1 rfl | exact k2 rfl | (simp only [zz, ty_math_bits_Len64, Nat.reduceAdd, Nat.reduceMul, Nat.reduceLeDiff, h1, h13, h15] <;> exact rfl) | exact rfl)))
          with_reducible apply TO.here
          repeat (first | with_reducible refine mv ?_ | with_reducible refine m12 rfl ?_ | with_reducible refine TO.nil ?_ | ((with_reducible apply TX.region); (focus (simp only [List.toList_toArray] <;> exact rfl)); (focus rfl); (try dsimp only)) | fail)
          apply TO.pop1 (by first | rfl | (simp only [twant, z1, List.getElem?_toArray, Option.bind_some, h1, h13, h15]; done)) (cvt_int_int un5 un3 rfl)
          (repeat (focus (show _ = _; first | exact k1 rfl | exact k2 rfl | (simp only [zz, ty_math_bits_Len64, Nat.reduceAdd, Nat.reduceMul, Nat.reduceLeDiff, h1, h13, h15] <;> exact rfl) | exact rfl)))
          with_reducible apply TO.here
          repeat (first | with_reducible refine mv ?_ | with_reducible refine m12 rfl ?_ | with_reducible refine TO.nil ?_ | ((with_reducible first | apply TO.bin | apply TO.asg); (repeat (focus (show _ = _; first | exact k1 rfl | exact k2 rfl | (simp only [zz, ty_math_bits_Len64, Nat.reduceAdd, Nat.reduceMul, Nat.reduceLeDiff, h1, h13, h15] <;> exact rfl) | exact rfl))); (with_reducible refine TO.here ?_)) | ((with_reducible apply TX.region); (focus (simp only [List.toList_toArray] <;> exact rfl)); (focus rfl); (try dsimp only)) | fail)
          cases hr
          refine ⟨.inr rfl, _, (by simp only [zy, ty_math_bits_Len64, tresAll, tres, tload, rowOf, partT, h1, h13, h15]; exact rfl), ?_⟩
          exact Wk.ren [] rfl .nil (by (repeat (first | exact RNs.nil | refine RNs.cons .junk ?_ | refine RNs.cons (.keep rfl rfl) ?_ | refine RNs.cons (.lsl rfl rfl) ?_ | refine RNs.cons (.lsl rfl (by simp only [List.length_set])) ?_ | refine RNs.cons (.lptr rfl) ?_ | refine RNs.cons (.nil rfl) ?_ | refine RNs.cons .nl ?_ | refine RNs.cons (.keep (by simp only [h1, h13, h15]) rfl) ?_ | refine RNs.cons (.tuple' ?_) ?_ | refine RNs.cons (.agg' ?_) ?_)))
        · rw [if_neg (by rw [h15]; exact Bool.false_ne_true)] at hr
          repeat (first | with_reducible refine mv ?_ | with_reducible refine m12 rfl ?_ | with_reducible refine TO.nil ?_ | ((with_reducible first | apply TO.mv); (repeat (focus (show _ = _; first | exact k1 rfl | exact k2 rfl | (simp only [zz, ty_math_bits_Len64, Nat.reduceAdd, Nat.reduceMul, Nat.reduceLeDiff, h1, h13, h15] <;> exact rfl) | exact rfl))); (with_reducible refine TO.here ?_)) | ((with_reducible apply TX.region); (focus (simp only [List.toList_toArray] <;> exact rfl)); (focus rfl); (try dsimp only)) | ((with_reducible apply TX.cond_true); (focus rfl); (focus (first | rfl | (simp only [z1, Bool.not_true, Bool.not_false, h1, h13, h15]; done)))) | ((with_reducible apply TX.cond_false); (focus rfl); (focus (first | rfl | (simp only [z1, Bool.not_true, Bool.not_false, h1, h13, h15]; done)))) | fail)
          apply TO.pop1 (by first | rfl | (simp only [twant, z1, List.getElem?_toArray, Option.bind_some, h1, h13, h15]; done)) (cvt_int_int un172 un5 rfl)
          (repeat (focus (show _ = _; first | exact k1 rfl | exact k2 rfl | (simp only [zz, ty_math_bits_Len64, Nat.reduceAdd, Nat.reduceMul, Nat.reduceLeDiff, h1, h13, h15] <;> exact rfl) | exact rfl)))
          with_reducible apply TO.here
          repeat (first | with_reducible refine mv ?_ | with_reducible refine m12 rfl ?_ | with_reducible refine TO.nil ?_ | ((with_reducible apply TX.region); (focus (simp only [List.toList_toArray] <;> exact rfl)); (focus rfl); (try dsimp only)) | fail)
          obtain ⟨v14, h18, hr⟩ := Option.bind_eq_some_iff.1 hr
          try dsimp only at hr
          apply TO.pop1 (by first | rfl | (simp only [twant, z1, List.getElem?_toArray, Option.bind_some, h1, h13, h15]; done)) (pop_strix rfl rfl us9 h18)
          (repeat (focus (show _ = _; first | exact k1 rfl | exact k2 rfl | (simp only [zz, ty_math_bits_Len64, Nat.reduceAdd, Nat.reduceMul, Nat.reduceLeDiff, h1, h13, h15] <;> exact rfl) | exact rfl)))
          with_reducible apply TO.here
          repeat (first | with_reducible refine mv ?_ | with_reducible refine m12 rfl ?_ | with_reducible refine TO.nil ?_ | ((with_reducible apply TX.region); (focus (simp only [List.toList_toArray] <;> exact rfl)); (focus rfl); (try dsimp only)) | fail)
          apply TO.pop1 (by first | rfl | (simp only [twant, z1, List.getElem?_toArray, Option.bind_some, h1, h13, h15]; done)) (cvt_int_int un5 un3 rfl)
          (repeat (focus (show _ = _; first | exact k1 rfl | exact k2 rfl | (simp only [zz, ty_math_bits_Len64, Nat.reduceAdd, Nat.reduceMul, Nat.reduceLeDiff, h1, h13, h15] <;> exact rfl) | exact rfl)))
          with_reducible apply TO.here
          repeat (first | with_reducible refine mv ?_ | with_reducible refine m12 rfl ?_ | with_reducible refine TO.nil ?_ | ((with_reducible first | apply TO.bin | apply TO.asg); (repeat (focus (show _ = _; first | exact k1 rfl | exact k2 rfl | (simp only [zz, ty_math_bits_Len64, Nat.reduceAdd, Nat.reduceMul, Nat.reduceLeDiff, h1, h13, h15] <;> exact rfl) | exact rfl))); (with_reducible refine TO.here ?_)) | ((with_reducible apply TX.region); (focus (simp only [List.toList_toArray] <;> exact rfl)); (focus rfl); (try dsimp only)) | fail)
          cases hr
          refine ⟨.inr rfl, _, (by simp only [zy, ty_math_bits_Len64, tresAll, tres, tload, rowOf, partT, h1, h13, h15]; exact rfl), ?_⟩
          exact Wk.ren [] rfl .nil (by (repeat (first | exact RNs.nil | refine RNs.cons .junk ?_ | refine RNs.cons (.keep rfl rfl) ?_ | refine RNs.cons (.lsl rfl rfl) ?_ | refine RNs.cons (.lsl rfl (by simp only [List.length_set])) ?_ | refine RNs.cons (.lptr rfl) ?_ | refine RNs.cons (.nil rfl) ?_ | refine RNs.cons .nl ?_ | refine RNs.cons (.keep (by simp only [h1, h13, h15]) rfl) ?_ | refine RNs.cons (.tuple' ?_) ?_ | refine RNs.cons (.agg' ?_) ?_)))
      · rw [if_neg (by rw [h13]; exact Bool.false_ne_true)] at hr
        repeat (first | with_reducible refine mv ?_ | with_reducible refine m12 rfl ?_ | with_reducible refine TO.nil ?_ | ((with_reducible first | apply TO.mv | apply TO.bin); (repeat (focus (show _ = _; first | exact k1 rfl | exact k2 rfl | (simp only [zz, ty_math_bits_Len64, Nat.reduceAdd, Nat.reduceMul, Nat.reduceLeDiff, h1, h13] <;> exact rfl) | exact rfl))); (with_reducible refine TO.here ?_)) | ((with_reducible apply TX.region); (focus (simp only [List.toList_toArray] <;> exact rfl)); (focus rfl); (try dsimp only)) | ((with_reducible apply TX.cond_true); (focus rfl); (focus (first | rfl | (simp only [z1, Bool.not_true, Bool.not_false, h1, h13]; done)))) | ((with_reducible apply TX.cond_false); (focus rfl); (focus (first | rfl | (simp only [z1, Bool.not_true, Bool.not_false, h1, h13]; done)))) | fail)
        rcases Bool.eq_false_or_eq_true ((decide (v1 ≥ 256))) with h19 | h19
        · rw [if_pos h19] at hr
          repeat (first | with_reducible refine mv ?_ | with_reducible refine m12 rfl ?_ | with_reducible refine TO.nil ?_ | ((with_reducible first | apply TO.mv); (repeat (focus (show _ = _; first | exact k1 rfl | exact k2 rfl | (simp only [zz, ty_math_bits_Len64, Nat.reduceAdd, Nat.reduceMul, Nat.reduceLeDiff, h1, h13, h19] <;> exact rfl) | exact rfl))); (with_reducible refine TO.here ?_)) | ((with_reducible apply TX.region); (focus (simp only [List.toList_toArray] <;> exact rfl)); (focus rfl); (try dsimp only)) | ((with_reducible apply TX.cond_true); (focus rfl); (focus (first | rfl | (simp only [z1, Bool.not_true, Bool.not_false, h1, h13, h19]; done)))) | ((with_reducible apply TX.cond_false); (focus rfl); (focus (first | rfl | (simp only [z1, Bool.not_true, Bool.not_false, h1, h13, h19]; done)))) | fail)
          obtain ⟨v15, h20, hr⟩ := Option.bind_eq_some_iff.1 hr
          try dsimp only at hr
          apply TO.pop1 (by first | rfl | (simp only [twant, z1, List.getElem?_toArray, Option.bind_some, h1, h13, h19]; done)) (pop_shift rfl rfl (by decide) (h20))
          (repeat (focus (show _ = _; first | exact k1 rfl | exact k2 rfl | (simp only [zz, ty_math_bits_Len64, Nat.reduceAdd, Nat.reduceMul, Nat.reduceLeDiff, h1, h13, h19] <;> exact rfl) | exact rfl)))
          with_reducible apply TO.here
          repeat (first | with_reducible refine mv ?_ | with_reducible refine m12 rfl ?_ | with_reducible refine TO.nil ?_ | ((with_reducible first | apply TO.asg | apply TO.mv | apply TO.bin); (repeat (focus (show _ = _; first | exact k1 rfl | exact k2 rfl | (simp only [zz, ty_math_bits_Len64, Nat.reduceAdd, Nat.reduceMul, Nat.reduceLeDiff, h1, h13, h19] <;> exact rfl) | exact rfl))); (with_reducible refine TO.here ?_)) | ((with_reducible apply TX.region); (focus (simp only [List.toList_toArray] <;> exact rfl)); (focus rfl); (try dsimp only)) | fail)
          apply TO.pop1 (by first | rfl | (simp only [twant, z1, List.getElem?_toArray, Option.bind_some, h1, h13, h19]; done)) (cvt_int_int un172 un5 rfl)
          (repeat (focus (show _ = _; first | exact k1 rfl | exact k2 rfl | (simp only [zz, ty_math_bits_Len64, Nat.reduceAdd, Nat.reduceMul, Nat.reduceLeDiff, h1, h13, h19] <;> exact rfl) | exact rfl)))
          with_reducible apply TO.here
          repeat (first | with_reducible refine mv ?_ | with_reducible refine m12 rfl ?_ | with_reducible refine TO.nil ?_ | ((with_reducible apply TX.region); (focus (simp only [List.toList_toArray] <;> exact rfl)); (focus rfl); (try dsimp only)) | fail)
          obtain ⟨v16, h21, hr⟩ := Option.bind_eq_some_iff.1 hr
          try dsimp only at hr
          apply TO.pop1 (by first | rfl | (simp only [twant, z1, List.getElem?_toArray, Option.bind_some, h1, h13, h19]; done)) (pop_strix rfl rfl us9 h21)
          (repeat (focus (show _ = _; first | exact k1 rfl | exact k2 rfl | (simp only [zz, ty_math_bits_Len64, Nat.reduceAdd, Nat.reduceMul, Nat.reduceLeDiff, h1, h13, h19] <;> exact rfl) | exact rfl)))
          with_reducible apply TO.here
          repeat (first | with_reducible refine mv ?_ | with_reducible refine m12 rfl ?_ | with_reducible refine TO.nil ?_ | ((with_reducible apply TX.region); (focus (simp only [List.toList_toArray] <;> exact rfl)); (focus rfl); (try dsimp only)) | fail)
          apply TO.pop1 (by first | rfl | (simp only [twant, z1, List.getElem?_toArray, Option.bind_some, h1, h13, h19]; done)) (cvt_int_int un5 un3 rfl)
          (repeat (focus (show _ = _; first | exact k1 rfl | exact k2 rfl | (simp only [zz, ty_math_bits_Len64, Nat.reduceAdd, Nat.reduceMul, Nat.reduceLeDiff, h1, h13, h19] <;> exact rfl) | exact rfl)))
          with_reducible apply TO.here
          repeat (first | with_reducible refine mv ?_ | with_reducible refine m12 rfl ?_ | with_reducible refine TO.nil ?_ | ((with_reducible first | apply TO.bin | apply TO.asg); (repeat (focus (show _ = _; first | exact k1 rfl | exact k2 rfl | (simp only [zz, ty_math_bits_Len64, Nat.reduceAdd, Nat.reduceMul, Nat.reduceLeDiff, h1, h13, h19] <;> exact rfl) | exact rfl))); (with_reducible refine TO.here ?_)) | ((with_reducible apply TX.region); (focus (simp only [List.toList_toArray] <;> exact rfl)); (focus rfl); (try dsimp only)) | fail)
          cases hr
          refine ⟨.inr rfl, _, (by simp only [zy, ty_math_bits_Len64, tresAll, tres, tload, rowOf, partT, h1, h13, h19]; exact rfl), ?_⟩
          exact Wk.ren [] rfl .nil (by (repeat (first | exact RNs.nil | refine RNs.cons .junk ?_ | refine RNs.cons (.keep rfl rfl) ?_ | refine RNs.cons (.lsl rfl rfl) ?_ | refine RNs.cons (.lsl rfl (by simp only [List.length_set])) ?_ | refine RNs.cons (.lptr rfl) ?_ | refine RNs.cons (.nil rfl) ?_ | refine RNs.cons .nl ?_ | refine RNs.cons (.keep (by simp only [h1, h13, h19]) rfl) ?_ | refine RNs.cons (.tuple' ?_) ?_ | refine RNs.cons (.agg' ?_) ?_)))
        · rw [if_neg (by rw [h19]; exact Bool.false_ne_true)] at hr
          repeat (first | with_reducible refine mv ?_ | with_reducible refine m12 rfl ?_ | with_reducible refine TO.nil ?_ | ((with_reducible first | apply TO.mv); (repeat (focus (show _ = _; first | exact k1 rfl | exact k2 rfl | (simp only [zz, ty_math_bits_Len64, Nat.reduceAdd, Nat.reduceMul, Nat.reduceLeDiff, h1, h13, h19] <;> exact rfl) | exact rfl))); (with_reducible refine TO.here ?_)) | ((with_reducible apply TX.region); (focus (simp only [List.toList_toArray] <;> exact rfl)); (focus rfl); (try dsimp only)) | ((with_reducible apply TX.cond_true); (focus rfl); (focus (first | rfl | (simp only [z1, Bool.not_true, Bool.not_false, h1, h13, h19]; done)))) | ((with_reducible apply TX.cond_false); (focus rfl); (focus (first | rfl | (simp only [z1, Bool.not_true, Bool.not_false, h1, h13, h19]; done)))) | fail)
          apply TO.pop1 (by first | rfl | (simp only [twant, z1, List.getElem?_toArray, Option.bind_some, h1, h13, h19]; done)) (cvt_int_int un172 un5 rfl)
          (repeat (focus (show _ = _; first | exact k1 rfl | exact k2 rfl | (simp only [zz, ty_math_bits_Len64, Nat.reduceAdd, Nat.reduceMul, Nat.reduceLeDiff, h1, h13, h19] <;> exact rfl) | exact rfl)))
          with_reducible apply TO.here
          repeat (first | with_reducible refine mv ?_ | with_reducible refine m12 rfl ?_ | with_reducible refine TO.nil ?_ | ((with_reducible apply TX.region); (focus (simp only [List.toList_toArray] <;> exact rfl)); (focus rfl); (try dsimp only)) | fail)
          obtain ⟨v17, h22, hr⟩ := Option.bind_eq_some_iff.1 hr
          try dsimp only at hr
          apply TO.pop1 (by first | rfl | (simp only [twant, z1, List.getElem?_toArray, Option.bind_some, h1, h13, h19]; done)) (pop_strix rfl rfl us9 h22)
          (repeat (focus (show _ = _; first | exact k1 rfl | exact k2 rfl | (simp only [zz, ty_math_bits_Len64, Nat.reduceAdd, Nat.reduceMul, Nat.reduceLeDiff, h1, h13, h19] <;> exact rfl) | exact rfl)))
          with_reducible apply TO.here
          repeat (first | with_reducible refine mv ?_ | with_reducible refine m12 rfl ?_ | with_reducible refine TO.nil ?_ | ((with_reducible apply TX.region); (focus (simp only [List.toList_toArray] <;> exact rfl)); (focus rfl); (try dsimp only)) | fail)
          apply TO.pop1 (by first | rfl | (simp only [twant, z1, List.getElem?_toArray, Option.bind_some, h1, h13, h19]; done)) (cvt_int_int un5 un3 rfl)
          (repeat (focus (show _ = _; first | exact k1 rfl | exact k2 rfl | (simp only [zz, ty_math_bits_Len64, Nat.reduceAdd, Nat.reduceMul, Nat.reduceLeDiff, h1, h13, h19] <;> exact rfl) | exact rfl)))
          with_reducible apply TO.here
          repeat (first | with_reducible refine mv ?_ | with_reducible refine m12 rfl ?_ | with_reducible refine TO.nil ?_ | ((with_reducible first | apply TO.bin | apply TO.asg); (repeat (focus (show _ = _; first | exact k1 rfl | exact k2 rfl | (simp only [zz, ty_math_bits_Len64, Nat.reduceAdd, Nat.reduceMul, Nat.reduceLeDiff, h1, h13, h19] <;> exact rfl) | exact rfl))); (with_reducible refine TO.here ?_)) | ((with_reducible apply TX.region); (focus (simp only [List.toList_toArray] <;> exact rfl)); (focus rfl); (try dsimp only)) | fail)
          cases hr
          refine ⟨.inr rfl, _, (by simp only [zy, ty_math_bits_Len64, tresAll, tres, tload, rowOf, partT, h1, h13, h19]; exact rfl), ?_⟩
          exact Wk.ren [] rfl .nil (by (repeat (first | exact RNs.nil | refine RNs.cons .junk ?_ | refine RNs.cons (.keep rfl rfl) ?_ | refine RNs.cons (.lsl rfl rfl) ?_ | refine RNs.cons (.lsl rfl (by simp only [List.length_set])) ?_ | refine RNs.cons (.lptr rfl) ?_ | refine RNs.cons (.nil rfl) ?_ | refine RNs.cons .nl ?_ | refine RNs.cons (.keep (by simp only [h1, h13, h19]) rfl) ?_ | refine RNs.cons (.tuple' ?_) ?_ | refine RNs.cons (.agg' ?_) ?_)))
  rfl

end Go.Rex

namespace Go.Rex
open Go.Proofs
open Go Go.Rex Go.RowKit
set_option maxRecDepth 100000
theorem math_bits_LeadingZeros64_spec {v1 : Int} {v2 : Int} (hr : math_bits_LeadingZeros64 v1 = some (v2)) : Spec (lim Try.prog) 136 [.v (.int .u64 v1)] ⟨[.v (.int .i64 v2)], []⟩ := by
  unfold math_bits_LeadingZeros64 at hr
  apply Spec.fn Try.func136 rfl
  focus (simp [Try.f136] <;> exact rfl)
  focus
    repeat (first | with_reducible refine mv ?_ | with_reducible refine m12 rfl ?_ | with_reducible refine TO.nil ?_ | ((with_reducible first | apply TO.asg | apply TO.mv); (repeat (focus (show _ = _; first | exact k1 rfl | exact k2 rfl | (simp only [zz, Nat.reduceAdd, Nat.reduceMul, Nat.reduceLeDiff] <;> exact rfl) | exact rfl))); (with_reducible refine TO.here ?_)) | ((with_reducible apply TX.region); (focus (simp only [List.toList_toArray] <;> exact rfl)); (focus rfl); (try dsimp only)) | fail)
    obtain ⟨v3, h1, hr⟩ := Option.bind_eq_some_iff.1 hr
    try dsimp only at hr
    apply TO.cal (by first | rfl | (simp only [twant, z1, List.getElem?_toArray, Option.bind_some]; done)) rfl goFn140 (math_bits_Len64_spec h1) rfl rfl rfl
    (repeat (focus (show _ = _; first | exact k1 rfl | exact k2 rfl | (simp only [zz, Nat.reduceAdd, Nat.reduceMul, Nat.reduceLeDiff, shift, kill, killB, frz, frzB, view, tml, tmlc, List.length_set] <;> exact rfl) | exact rfl)))
    with_reducible apply TO.here
    repeat (first | with_reducible refine mv ?_ | with_reducible refine m12 rfl ?_ | with_reducible refine TO.nil ?_ | ((with_reducible first | apply TO.bin | apply TO.asg); (repeat (focus (show _ = _; first | exact k1 rfl | exact k2 rfl | (simp only [zz, Nat.reduceAdd, Nat.reduceMul, Nat.reduceLeDiff] <;> exact rfl) | exact rfl))); (with_reducible refine TO.here ?_)) | ((with_reducible apply TX.region); (focus (simp only [List.toList_toArray] <;> exact rfl)); (focus rfl); (try dsimp only)) | fail)
    cases hr
    refine ⟨.inr rfl, _, (by simp only [zy, tresAll, tres, tload, rowOf, partT]; exact rfl), ?_⟩
    exact wr [] rfl .nil
  rfl

end Go.Rex

namespace Go.Rex
open Go.Proofs
open Go Go.Rex Go.RowKit
set_option maxRecDepth 100000
def ty_math_bits_Div64 := an @un198 <| @un3
theorem math_bits_Div64_spec {v1 : Int} {v2 : Int} {v3 : Int} {v4 : Int} {v5 : Int} (hr : math_bits_Div64 v1 v2 v3 = some (v4, v5)) : Spec (lim Try.prog) 132 [.v (.int .u64 v1), .v (.int .u64 v2), .v (.int .u64 v3)] ⟨[.tuple [.v (.int .u64 v4), .v (.int .u64 v5)]], []⟩ := by
  unfold math_bits_Div64 at hr
  apply Spec.fn Try.func132 rfl
  focus (simp [Try.f132] <;> exact rfl)
  focus
    repeat (first | with_reducible refine mv ?_ | with_reducible refine m12 rfl ?_ | with_reducible refine TO.nil ?_ | ((with_reducible first | apply TO.asg | apply TO.mv | apply TO.bin); (repeat (focus (show _ = _; first | exact k1 rfl | exact k2 rfl | (simp only [zz, ty_math_bits_Div64, Nat.reduceAdd, Nat.reduceMul, Nat.reduceLeDiff] <;> exact rfl) | exact rfl))); (with_reducible refine TO.here ?_)) | ((with_reducible apply TX.region); (focus (simp only [List.toList_toArray] <;> exact rfl)); (focus rfl); (try dsimp only)) | ((with_reducible apply TX.cond_true); (focus rfl); (focus (first | rfl | (simp only [z1, Bool.not_true, Bool.not_false]; done)))) | ((with_reducible apply TX.cond_false); (focus rfl); (focus (first | rfl | (simp only [z1, Bool.not_true, Bool.not_false]; done)))) | fail)
    rcases Bool.eq_false_or_eq_true ((decide (v3 = 0))) with h1 | h1
    · rw [if_pos h1] at hr
      cases hr
    · rw [if_neg (by rw [h1]; exact Bool.false_ne_true)] at hr
      repeat (first | with_reducible refine mv ?_ | with_reducible refine m12 rfl ?_ | with_reducible refine TO.nil ?_ | ((with_reducible first | apply TO.mv | apply TO.bin); (repeat (focus (show _ = _; first | exact k1 rfl | exact k2 rfl | (simp only [zz, ty_math_bits_Div64, Nat.reduceAdd, Nat.reduceMul, Nat.reduceLeDiff, h1] <;> exact rfl) | exact rfl))); (with_reducible refine TO.here ?_)) | ((with_reducible apply TX.region); (focus (simp only [List.toList_toArray] <;> exact rfl)); (focus rfl); (try dsimp only)) | ((with_reducible apply TX.cond_true); (focus rfl); (focus (first | rfl | (simp only [z1, Bool.not_true, Bool.not_false, h1]; done)))) | ((with_reducible apply TX.cond_false); (focus rfl); (focus (first | rfl | (simp only [z1, Bool.not_true, Bool.not_false, h1]; done)))) | fail)
      rcases Bool.eq_false_or_eq_true ((decide (v3 ≤ v1))) with h2 | h2
      · rw [if_pos h2] at hr
        cases hr
      · rw [if_neg (by rw [h2]; exact Bool.false_ne_true)] at hr
        repeat (first | with_reducible refine mv ?_ | with_reducible refine m12 rfl ?_ | with_reducible refine TO.nil ?_ | ((with_reducible first | apply TO.mv | apply TO.bin); (repeat (focus (show _ = _; first | exact k1 rfl | exact k2 rfl | (simp only [zz, ty_math_bits_Div64, Nat.reduceAdd, Nat.reduceMul, Nat.reduceLeDiff, h1, h2] <;> exact rfl) | exact rfl))); (with_reducible refine TO.here ?_)) | ((with_reducible apply TX.region); (focus (simp only [List.toList_toArray] <;> exact rfl)); (focus rfl); (try dsimp only)) | ((with_reducible apply TX.cond_true); (focus rfl); (focus (first | rfl | (simp only [z1, Bool.not_true, Bool.not_false, h1, h2]; done)))) | ((with_reducible apply TX.cond_false); (focus rfl); (focus (first | rfl | (simp only [z1, Bool.not_true, Bool.not_false, h1, h2]; done)))) | fail)
        rcases Bool.eq_false_or_eq_true ((decide (v1 = 0))) with h3 | h3
        · rw [if_pos h3] at hr
          repeat (first | with_reducible refine mv ?_ | with_reducible refine m12 rfl ?_ | with_reducible refine TD.nil ?_ | ((with_reducible first | apply TD.mv); (repeat (focus (show _ = _; first | exact k1 rfl | exact k2 rfl | (simp only [zz, ty_math_bits_Div64, Nat.reduceAdd, Nat.reduceMul, Nat.reduceLeDiff, h1, h2, h3] <;> exact rfl) | exact rfl))); (with_reducible refine TD.here ?_)) | ((with_reducible apply TX.drawn); (focus decide +kernel); (focus (simp only [List.toList_toArray] <;> exact rfl)); (focus exact rfl); (try dsimp only)) | ((with_reducible apply TX.cond_true); (focus rfl); (focus (first | rfl | (simp only [z1, Bool.not_true, Bool.not_false, h1, h2, h3]; done)))) | ((with_reducible apply TX.cond_false); (focus rfl); (focus (first | rfl | (simp only [z1, Bool.not_true, Bool.not_false, h1, h2, h3]; done)))) | fail)
          by_cases h4 : v3 = 0
          · rw [if_pos h4] at hr
            cases hr
          · rw [if_neg h4] at hr
            repeat (first | with_reducible refine mv ?_ | with_reducible refine m12 rfl ?_ | with_reducible refine TD.nil ?_ | ((with_reducible first | apply TD.bin | apply TD.mv | apply TD.asg); (repeat (focus (show _ = _; first | exact k1 rfl | exact k2 rfl | (simp only [zz, ty_math_bits_Div64, Nat.reduceAdd, Nat.reduceMul, Nat.reduceLeDiff, h1, h2, h3, h4] <;> exact rfl) | exact rfl))); (with_reducible refine TD.here ?_)) | ((with_reducible apply TX.drawn); (focus decide +kernel); (focus (simp only [List.toList_toArray] <;> exact rfl)); (focus exact rfl); (try dsimp only)) | fail)
            cases hr
            refine ⟨.inr rfl, _, (by simp only [zy, ty_math_bits_Div64, tresAll, tres, tload, rowOf, partT, h1, h2, h3, h4]; exact rfl), ?_⟩
            exact Wk.ren [] rfl .nil (by (repeat (first | exact RNs.nil | refine RNs.cons .junk ?_ | refine RNs.cons (.keep rfl rfl) ?_ | refine RNs.cons (.lsl rfl rfl) ?_ | refine RNs.cons (.lsl rfl (by simp only [List.length_set])) ?_ | refine RNs.cons (.lptr rfl) ?_ | refine RNs.cons (.nil rfl) ?_ | refine RNs.cons .nl ?_ | refine RNs.cons (.keep (by simp only [h1, h2, h3]) rfl) ?_ | refine RNs.cons (.tuple' ?_) ?_ | refine RNs.cons (.agg' ?_) ?_)))
        · rw [if_neg (by rw [h3]; exact Bool.false_ne_true)] at hr
          repeat (first | with_reducible refine mv ?_ | with_reducible refine m12 rfl ?_ | with_reducible refine TO.nil ?_ | ((with_reducible first | apply TO.mv); (repeat (focus (show _ = _; first | exact k1 rfl | exact k2 rfl | (simp only [zz, ty_math_bits_Div64, Nat.reduceAdd, Nat.reduceMul, Nat.reduceLeDiff, h1, h2, h3] <;> exact rfl) | exact rfl))); (with_reducible refine TO.here ?_)) | ((with_reducible apply TX.region); (focus (simp only [List.toList_toArray] <;> exact rfl)); (focus rfl); (try dsimp only)) | ((with_reducible apply TX.cond_true); (focus rfl); (focus (first | rfl | (simp only [z1, Bool.not_true, Bool.not_false, h1, h2, h3]; done)))) | ((with_reducible apply TX.cond_false); (focus rfl); (focus (first | rfl | (simp only [z1, Bool.not_true, Bool.not_false, h1, h2, h3]; done)))) | fail)
          obtain ⟨v6, h5, hr⟩ := Option.bind_eq_some_iff.1 hr
          try dsimp only at hr
          apply TO.cal (by first | rfl | (simp only [twant, z1, List.getElem?_toArray, Option.bind_some, h1, h2, h3]; done)) rfl goFn136 (math_bits_LeadingZeros64_spec h5) rfl rfl rfl
          (repeat (focus (show _ = _; first | exact k1 rfl | exact k2 rfl | (simp only [zz, ty_math_bits_Div64, Nat.reduceAdd, Nat.reduceMul, Nat.reduceLeDiff, shift, kill, killB, frz, frzB, view, tml, tmlc, List.length_set, h1, h2, h3] <;> exact rfl) | exact rfl)))
          with_reducible apply TO.here
          repeat (first | with_reducible refine mv ?_ | with_reducible refine m12 rfl ?_ | with_reducible refine TO.nil ?_ | ((with_reducible apply TX.region); (focus (simp only [List.toList_toArray] <;> exact rfl)); (focus rfl); (try dsimp only)) | fail)
          apply TO.pop1 (by first | rfl | (simp only [twant, z1, List.getElem?_toArray, Option.bind_some, h1, h2, h3]; done)) (cvt_int_int un3 un198 rfl)
          (repeat (focus (show _ = _; first | exact k1 rfl | exact k2 rfl | (simp only [zz, ty_math_bits_Div64, Nat.reduceAdd, Nat.reduceMul, Nat.reduceLeDiff, h1, h2, h3] <;> exact rfl) | exact rfl)))
          with_reducible apply TO.here
          repeat (first | with_reducible refine mv ?_ | with_reducible refine m12 rfl ?_ | with_reducible refine TO.nil ?_ | ((with_reducible first | apply TO.asg | apply TO.mv); (repeat (focus (show _ = _; first | exact k1 rfl | exact k2 rfl | (simp only [zz, ty_math_bits_Div64, Nat.reduceAdd, Nat.reduceMul, Nat.reduceLeDiff, h1, h2, h3] <;> exact rfl) | exact rfl))); (with_reducible refine TO.here ?_)) | ((with_reducible apply TX.region); (focus (simp only [List.toList_toArray] <;> exact rfl)); (focus rfl); (try dsimp only)) | fail)
          obtain ⟨v7, h6, hr⟩ := Option.bind_eq_some_iff.1 hr
          try dsimp only at hr
          apply TO.pop1 (by first | rfl | (simp only [twant, z1, List.getElem?_toArray, Option.bind_some, h1, h2, h3]; done)) (pop_shift rfl rfl (by decide) (h6))
          (repeat (focus (show _ = _; first | exact k1 rfl | exact k2 rfl | (simp only [zz, ty_math_bits_Div64, Nat.reduceAdd, Nat.reduceMul, Nat.reduceLeDiff, h1, h2, h3] <;> exact rfl) | exact rfl)))
          with_reducible apply TO.here
          repeat (first | with_reducible refine mv ?_ | with_reducible refine m12 rfl ?_ | with_reducible refine TO.nil ?_ | ((with_reducible first | apply TO.asg | apply TO.mv); (repeat (focus (show _ = _; first | exact k1 rfl | exact k2 rfl | (simp only [zz, ty_math_bits_Div64, Nat.reduceAdd, Nat.reduceMul, Nat.reduceLeDiff, h1, h2, h3] <;> exact rfl) | exact rfl))); (with_reducible refine TO.here ?_)) | ((with_reducible apply TX.region); (focus (simp only [List.toList_toArray] <;> exact rfl)); (focus rfl); (try dsimp only)) | fail)
          obtain ⟨v8, h7, hr⟩ := Option.bind_eq_some_iff.1 hr
          try dsimp only at hr
          apply TO.pop1 (by first | rfl | (simp only [twant, z1, List.getElem?_toArray, Option.bind_some, h1, h2, h3]; done)) (pop_shift rfl rfl (by decide) (h7))
          (repeat (focus (show _ = _; first | exact k1 rfl | exact k2 rfl | (simp only [zz, ty_math_bits_Div64, Nat.reduceAdd, Nat.reduceMul, Nat.reduceLeDiff, h1, h2, h3] <;> exact rfl) | exact rfl)))
          with_reducible apply TO.here
          repeat (first | with_reducible refine mv ?_ | with_reducible refine m12 rfl ?_ | with_reducible refine TO.nil ?_ | ((with_reducible first | apply TO.asg | apply TO.mv); (repeat (focus (show _ = _; first | exact k1 rfl | exact k2 rfl | (simp only [zz, ty_math_bits_Div64, Nat.reduceAdd, Nat.reduceMul, Nat.reduceLeDiff, h1, h2, h3] <;> exact rfl) | exact rfl))); (with_reducible refine TO.here ?_)) | ((with_reducible apply TX.region); (focus (simp only [List.toList_toArray] <;> exact rfl)); (focus rfl); (try dsimp only)) | fail)
          apply TO.pop1 (by first | rfl | (simp only [twant, z1, List.getElem?_toArray, Option.bind_some, h1, h2, h3]; done)) (pop_bits rfl rfl (by decide))
          (repeat (focus (show _ = _; first | exact k1 rfl | exact k2 rfl | (simp only [zz, ty_math_bits_Div64, Nat.reduceAdd, Nat.reduceMul, Nat.reduceLeDiff, h1, h2, h3] <;> exact rfl) | exact rfl)))
          with_reducible apply TO.here
          repeat (first | with_reducible refine mv ?_ | with_reducible refine m12 rfl ?_ | with_reducible refine TO.nil ?_ | ((with_reducible first | apply TO.asg | apply TO.mv); (repeat (focus (show _ = _; first | exact k1 rfl | exact k2 rfl | (simp only [zz, ty_math_bits_Div64, Nat.reduceAdd, Nat.reduceMul, Nat.reduceLeDiff, h1, h2, h3] <;> exact rfl) | exact rfl))); (with_reducible refine TO.here ?_)) | ((with_reducible apply TX.region); (focus (simp only [List.toList_toArray] <;> exact rfl)); (focus rfl); (try dsimp only)) | fail)
          obtain ⟨v9, h8, hr⟩ := Option.bind_eq_some_iff.1 hr
          try dsimp only at hr
          apply TO.pop1 (by first | rfl | (simp only [twant, z1, List.getElem?_toArray, Option.bind_some, h1, h2, h3]; done)) (pop_shift rfl rfl (by decide) (h8))
          (repeat (focus (show _ = _; first | exact k1 rfl | exact k2 rfl | (simp only [zz, ty_math_bits_Div64, Nat.reduceAdd, Nat.reduceMul, Nat.reduceLeDiff, h1, h2, h3] <;> exact rfl) | exact rfl)))
          with_reducible apply TO.here
          repeat (first | with_reducible refine mv ?_ | with_reducible refine m12 rfl ?_ | with_reducible refine TO.nil ?_ | ((with_reducible first | apply TO.mv | apply TO.bin); (repeat (focus (show _ = _; first | exact k1 rfl | exact k2 rfl | (simp only [zz, ty_math_bits_Div64, Nat.reduceAdd, Nat.reduceMul, Nat.reduceLeDiff, h1, h2, h3] <;> exact rfl) | exact rfl))); (with_reducible refine TO.here ?_)) | ((with_reducible apply TX.region); (focus (simp only [List.toList_toArray] <;> exact rfl)); (focus rfl); (try dsimp only)) | fail)
          obtain ⟨v10, h9, hr⟩ := Option.bind_eq_some_iff.1 hr
          try dsimp only at hr
          apply TO.pop1 (by first | rfl | (simp only [twant, z1, List.getElem?_toArray, Option.bind_some, h1, h2, h3]; done)) (pop_shift rfl rfl (by decide) (h9))
          (repeat (focus (show _ = _; first | exact k1 rfl | exact k2 rfl | (simp only [zz, ty_math_bits_Div64, Nat.reduceAdd, Nat.reduceMul, Nat.reduceLeDiff, h1, h2, h3] <;> exact rfl) | exact rfl)))
          with_reducible apply TO.here
          repeat (first | with_reducible refine mv ?_ | with_reducible refine m12 rfl ?_ | with_reducible refine TO.nil ?_ | ((with_reducible apply TX.region); (focus (simp only [List.toList_toArray] <;> exact rfl)); (focus rfl); (try dsimp only)) | fail)
          apply TO.pop1 (by first | rfl | (simp only [twant, z1, List.getElem?_toArray, Option.bind_some, h1, h2, h3]; done)) (pop_bits rfl rfl (by decide))
          (repeat (focus (show _ = _; first | exact k1 rfl | exact k2 rfl | (simp only [zz, ty_math_bits_Div64, Nat.reduceAdd, Nat.reduceMul, Nat.reduceLeDiff, h1, h2, h3] <;> exact rfl) | exact rfl)))
          with_reducible apply TO.here
          repeat (first | with_reducible refine mv ?_ | with_reducible refine m12 rfl ?_ | with_reducible refine TO.nil ?_ | ((with_reducible first | apply TO.asg | apply TO.mv); (repeat (focus (show _ = _; first | exact k1 rfl | exact k2 rfl | (simp only [zz, ty_math_bits_Div64, Nat.reduceAdd, Nat.reduceMul, Nat.reduceLeDiff, h1, h2, h3] <;> exact rfl) | exact rfl))); (with_reducible refine TO.here ?_)) | ((with_reducible apply TX.region); (focus (simp only [List.toList_toArray] <;> exact rfl)); (focus rfl); (try dsimp only)) | fail)
          obtain ⟨v11, h10, hr⟩ := Option.bind_eq_some_iff.1 hr
          try dsimp only at hr
          apply TO.pop1 (by first | rfl | (simp only [twant, z1, List.getElem?_toArray, Option.bind_some, h1, h2, h3]; done)) (pop_shift rfl rfl (by decide) (h10))
          (repeat (focus (show _ = _; first | exact k1 rfl | exact k2 rfl | (simp only [zz, ty_math_bits_Div64, Nat.reduceAdd, Nat.reduceMul, Nat.reduceLeDiff, h1, h2, h3] <;> exact rfl) | exact rfl)))
          with_reducible apply TO.here
          repeat (first | with_reducible refine mv ?_ | with_reducible refine m12 rfl ?_ | with_reducible refine TO.nil ?_ | ((with_reducible first | apply TO.asg | apply TO.mv); (repeat (focus (show _ = _; first | exact k1 rfl | exact k2 rfl | (simp only [zz, ty_math_bits_Div64, Nat.reduceAdd, Nat.reduceMul, Nat.reduceLeDiff, h1, h2, h3] <;> exact rfl) | exact rfl))); (with_reducible refine TO.here ?_)) | ((with_reducible apply TX.region); (focus (simp only [List.toList_toArray] <;> exact rfl)); (focus rfl); (try dsimp only)) | fail)
          obtain ⟨v12, h11, hr⟩ := Option.bind_eq_some_iff.1 hr
          try dsimp only at hr
          apply TO.pop1 (by first | rfl | (simp only [twant, z1, List.getElem?_toArray, Option.bind_some, h1, h2, h3]; done)) (pop_shift rfl rfl (by decide) (h11))
          (repeat (focus (show _ = _; first | exact k1 rfl | exact k2 rfl | (simp only [zz, ty_math_bits_Div64, Nat.reduceAdd, Nat.reduceMul, Nat.reduceLeDiff, h1, h2, h3] <;> exact rfl) | exact rfl)))
          with_reducible apply TO.here
          repeat (first | with_reducible refine mv ?_ | with_reducible refine m12 rfl ?_ | with_reducible refine TO.nil ?_ | ((with_reducible first | apply TO.asg | apply TO.mv); (repeat (focus (show _ = _; first | exact k1 rfl | exact k2 rfl | (simp only [zz, ty_math_bits_Div64, Nat.reduceAdd, Nat.reduceMul, Nat.reduceLeDiff, h1, h2, h3] <;> exact rfl) | exact rfl))); (with_reducible refine TO.here ?_)) | ((with_reducible apply TX.region); (focus (simp only [List.toList_toArray] <;> exact rfl)); (focus rfl); (try dsimp only)) | fail)
          apply TO.pop1 (by first | rfl | (simp only [twant, z1, List.getElem?_toArray, Option.bind_some, h1, h2, h3]; done)) (pop_bits rfl rfl (by decide))
          (repeat (focus (show _ = _; first | exact k1 rfl | exact k2 rfl | (simp only [zz, ty_math_bits_Div64, Nat.reduceAdd, Nat.reduceMul, Nat.reduceLeDiff, h1, h2, h3] <;> exact rfl) | exact rfl)))
          with_reducible apply TO.here
          repeat (first | with_reducible refine mv ?_ | with_reducible refine m12 rfl ?_ | with_reducible refine TO.nil ?_ | ((with_reducible first | apply TO.asg | apply TO.mv); (repeat (focus (show _ = _; first | exact k1 rfl | exact k2 rfl | (simp only [zz, ty_math_bits_Div64, Nat.reduceAdd, Nat.reduceMul, Nat.reduceLeDiff, h1, h2, h3] <;> exact rfl) | exact rfl))); (with_reducible refine TO.here ?_)) | ((with_reducible apply TX.region); (focus (simp only [List.toList_toArray] <;> exact rfl)); (focus rfl); (try dsimp only)) | fail)
          by_cases h12 : v8 = 0
          · rw [if_pos h12] at hr
            cases hr
          · rw [if_neg h12] at hr
            repeat (first | with_reducible refine mv ?_ | with_reducible refine m12 rfl ?_ | with_reducible refine TO.nil ?_ | ((with_reducible first | apply TO.bin | apply TO.asg | apply TO.mv); (repeat (focus (show _ = _; first | exact k1 rfl | exact k2 rfl | (simp only [zz, ty_math_bits_Div64, Nat.reduceAdd, Nat.reduceMul, Nat.reduceLeDiff, h1, h2, h3, h12] <;> exact rfl) | exact rfl))); (with_reducible refine TO.here ?_)) | ((with_reducible apply TX.region); (focus (simp only [List.toList_toArray] <;> exact rfl)); (focus rfl); (try dsimp only)) | fail)
            obtain ⟨v16, h21, hr⟩ := Option.bind_eq_some_iff.1 hr
            try dsimp only at hr
            refine TX.loopE (step := math_bits_Div64_l1 v7 v8 v12) (x := ((IntKind.u64.wrap ((bitI .or .u64 v9 v10).tdiv v8)), (IntKind.u64.wrap ((bitI .or .u64 v9 v10) - (IntKind.u64.wrap ((IntKind.u64.wrap ((bitI .or .u64 v9 v10).tdiv v8)) * v8)))))) h21 (fun (v13, v14) => ⟨.junk :: .junk :: .v (.int .u64 v7) :: .junk :: .junk :: .junk :: .junk :: .junk :: .v (.int .u64 (IntKind.u64.wrap v6)) :: .v (.int .u64 v8) :: .v (.int .u64 (bitI .and .u64 v7 4294967295)) :: .v (.int .u64 (bitI .or .u64 v9 v10)) :: .junk :: .v (.int .u64 v12) :: .v (.int .u64 (bitI .and .u64 v11 4294967295)) :: .v (.int .u64 v13) :: .v (.int .u64 v14) :: .junk :: .junk :: .junk :: .junk :: .junk :: .junk :: .junk :: .junk :: .junk :: .junk :: .junk :: .junk :: .junk :: .junk :: .junk :: .junk :: .junk :: .junk :: .junk :: .junk :: .junk :: .junk :: .junk :: .junk :: .junk :: .junk :: .junk :: .junk :: .junk :: .junk :: .junk :: .junk :: .junk :: .junk :: .junk :: .junk :: .junk :: .junk :: .junk :: .junk :: .junk :: .junk :: .junk :: .junk :: .junk :: .junk :: .junk :: .junk :: .junk :: .junk :: .junk :: .junk :: .junk :: .junk :: .junk :: .junk :: .junk :: .junk :: .junk :: .junk :: .junk :: .junk :: .junk :: .junk :: .junk :: .junk :: .junk :: .junk :: .junk :: .junk :: .junk :: .junk :: .junk :: .junk :: .junk :: .junk :: .junk :: .junk :: .junk :: .junk :: .junk :: .junk :: .junk :: .junk :: .junk :: .junk :: .junk :: .junk :: .junk :: .junk :: .junk :: .junk :: .junk :: .junk :: .junk :: .junk :: .junk :: .junk :: .junk :: .junk :: .junk :: .junk :: .junk :: .junk :: .junk :: .junk :: .junk :: .junk :: .junk :: .junk :: .junk :: .junk :: .junk :: .junk :: .junk :: .junk :: .junk :: .junk :: [], []⟩) (fun v15 => (.exit 0, ⟨.junk :: .junk :: .v (.int .u64 v7) :: .junk :: .junk :: .junk :: .junk :: .junk :: .v (.int .u64 (IntKind.u64.wrap v6)) :: .v (.int .u64 v8) :: .v (.int .u64 (bitI .and .u64 v7 4294967295)) :: .v (.int .u64 (bitI .or .u64 v9 v10)) :: .junk :: .v (.int .u64 v12) :: .v (.int .u64 (bitI .and .u64 v11 4294967295)) :: .v (.int .u64 v15) :: .junk :: .junk :: .junk :: .junk :: .junk :: .junk :: .junk :: .junk :: .junk :: .junk :: .junk :: .junk :: .junk :: .junk :: .junk :: .junk :: .junk :: .junk :: .junk :: .junk :: .junk :: .junk :: .junk :: .junk :: .junk :: .junk :: .junk :: .junk :: .junk :: .junk :: .junk :: .junk :: .junk :: .junk :: .junk :: .junk :: .junk :: .junk :: .junk :: .junk :: .junk :: .junk :: .junk :: .junk :: .junk :: .junk :: .junk :: .junk :: .junk :: .junk :: .junk :: .junk :: .junk :: .junk :: .junk :: .junk :: .junk :: .junk :: .junk :: .junk :: .junk :: .junk :: .junk :: .junk :: .junk :: .junk :: .junk :: .junk :: .junk :: .junk :: .junk :: .junk :: .junk :: .junk :: .junk :: .junk :: .junk :: .junk :: .junk :: .junk :: .junk :: .junk :: .junk :: .junk :: .junk :: .junk :: .junk :: .junk :: .junk :: .junk :: .junk :: .junk :: .junk :: .junk :: .junk :: .junk :: .junk :: .junk :: .junk :: .junk :: .junk :: .junk :: .junk :: .junk :: .junk :: .junk :: .junk :: .junk :: .junk :: .junk :: .junk :: .junk :: .junk :: .junk :: .junk :: .junk :: .junk :: .junk :: .junk :: [], []⟩)) ?_ ?_ ?_ ?_
            · rintro ⟨v13, v14⟩ v0 hr
              dsimp only [math_bits_Div64_l1] at hr
              try dsimp only
              repeat (first | with_reducible refine mv ?_ | with_reducible refine m12 rfl ?_ | with_reducible refine TO.nil ?_ | ((with_reducible first | apply TO.mv | apply TO.bin); (repeat (focus (show _ = _; first | exact k1 rfl | exact k2 rfl | (simp only [zz, ty_math_bits_Div64, Nat.reduceAdd, Nat.reduceMul, Nat.reduceLeDiff, h1, h2, h3, h12] <;> exact rfl) | exact rfl))); (with_reducible refine TO.here ?_)) | ((with_reducible apply TX.region); (focus (simp only [List.toList_toArray] <;> exact rfl)); (focus rfl); (try dsimp only)) | fail)
              rcases Bool.eq_false_or_eq_true ((decide (v13 ≥ 4294967296))) with h17 | h17
              · rw [if_pos h17] at hr
                repeat (first | with_reducible refine mv ?_ | with_reducible refine m12 rfl ?_ | with_reducible refine TO.nil ?_ | ((with_reducible first | apply TO.pk | apply TO.mv | apply TO.bin | apply TO.asg); (repeat (focus (show _ = _; first | exact k1 rfl | exact k2 rfl | (simp only [zz, ty_math_bits_Div64, Nat.reduceAdd, Nat.reduceMul, Nat.reduceLeDiff, h1, h2, h3, h12, h17] <;> exact rfl) | exact rfl))); (with_reducible refine TO.here ?_)) | ((with_reducible apply TO.skip1); (repeat (focus (show _ = _; first | exact k1 rfl | exact k2 rfl | (simp only [zz, ty_math_bits_Div64, Nat.reduceAdd, Nat.reduceMul, Nat.reduceLeDiff, twant, List.getElem?_toArray, Option.bind_some, h1, h2, h3, h12, h17] <;> exact rfl) | exact rfl))); (with_reducible refine TO.here ?_)) | ((with_reducible apply TX.region); (focus (simp only [List.toList_toArray] <;> exact rfl)); (focus rfl); (try dsimp only)) | ((with_reducible apply TX.cond_true); (focus rfl); (focus (first | rfl | (simp only [z1, Bool.not_true, Bool.not_false, h1, h2, h3, h12, h17]; done)))) | ((with_reducible apply TX.cond_false); (focus rfl); (focus (first | rfl | (simp only [z1, Bool.not_true, Bool.not_false, h1, h2, h3, h12, h17]; done)))) | fail)
                rcases Bool.eq_false_or_eq_true ((decide ((IntKind.u64.wrap (v14 + v8)) ≥ 4294967296))) with h18 | h18
                · rw [if_pos h18] at hr
                  repeat (first | with_reducible refine mv ?_ | with_reducible refine m12 rfl ?_ | ((with_reducible apply TX.cond_true); (focus rfl); (focus (first | rfl | (simp only [z1, Bool.not_true, Bool.not_false, h1, h2, h3, h12, h17, h18]; done)))) | ((with_reducible apply TX.cond_false); (focus rfl); (focus (first | rfl | (simp only [z1, Bool.not_true, Bool.not_false, h1, h2, h3, h12, h17, h18]; done)))) | fail)
                  cases hr
                  refine ⟨rfl, ?_⟩
                  exact Wk.ren [] rfl .nil (by (repeat (first | exact RNs.nil | refine RNs.cons .junk ?_ | refine RNs.cons (.keep rfl rfl) ?_ | refine RNs.cons (.lsl rfl rfl) ?_ | refine RNs.cons (.lsl rfl (by simp only [List.length_set])) ?_ | refine RNs.cons (.lptr rfl) ?_ | refine RNs.cons (.nil rfl) ?_ | refine RNs.cons .nl ?_ | refine RNs.cons (.keep (by simp only [h1, h2, h3, h17, h18]) rfl) ?_ | refine RNs.cons (.tuple' ?_) ?_ | refine RNs.cons (.agg' ?_) ?_)))
                · rw [if_neg (by rw [h18]; exact Bool.false_ne_true)] at hr
                  repeat (first | with_reducible refine mv ?_ | with_reducible refine m12 rfl ?_ | ((with_reducible apply TX.cond_true); (focus rfl); (focus (first | rfl | (simp only [z1, Bool.not_true, Bool.not_false, h1, h2, h3, h12, h17, h18]; done)))) | ((with_reducible apply TX.cond_false); (focus rfl); (focus (first | rfl | (simp only [z1, Bool.not_true, Bool.not_false, h1, h2, h3, h12, h17, h18]; done)))) | fail)
                  cases hr
                  refine ⟨rfl, ?_⟩
                  exact Wk.ren [] rfl .nil (by (repeat (first | exact RNs.nil | refine RNs.cons .junk ?_ | refine RNs.cons (.keep rfl rfl) ?_ | refine RNs.cons (.lsl rfl rfl) ?_ | refine RNs.cons (.lsl rfl (by simp only [List.length_set])) ?_ | refine RNs.cons (.lptr rfl) ?_ | refine RNs.cons (.nil rfl) ?_ | refine RNs.cons .nl ?_ | refine RNs.cons (.keep (by simp only [h1, h2, h3, h17, h18]) rfl) ?_ | refine RNs.cons (.tuple' ?_) ?_ | refine RNs.cons (.agg' ?_) ?_)))
              · rw [if_neg (by rw [h17]; exact Bool.false_ne_true)] at hr
                repeat (first | with_reducible refine mv ?_ | with_reducible refine m12 rfl ?_ | with_reducible refine TO.nil ?_ | ((with_reducible first | apply TO.mv | apply TO.bin | apply TO.pk); (repeat (focus (show _ = _; first | exact k1 rfl | exact k2 rfl | (simp only [zz, ty_math_bits_Div64, Nat.reduceAdd, Nat.reduceMul, Nat.reduceLeDiff, h1, h2, h3, h12, h17] <;> exact rfl) | exact rfl))); (with_reducible refine TO.here ?_)) | ((with_reducible apply TX.region); (focus (simp only [List.toList_toArray] <;> exact rfl)); (focus rfl); (try dsimp only)) | ((with_reducible apply TX.cond_true); (focus rfl); (focus (first | rfl | (simp only [z1, Bool.not_true, Bool.not_false, h1, h2, h3, h12, h17]; done)))) | ((with_reducible apply TX.cond_false); (focus rfl); (focus (first | rfl | (simp only [z1, Bool.not_true, Bool.not_false, h1, h2, h3, h12, h17]; done)))) | fail)
                rcases Bool.eq_false_or_eq_true ((decide ((IntKind.u64.wrap (v13 * (bitI .and .u64 v7 4294967295))) > (IntKind.u64.wrap ((IntKind.u64.wrap (4294967296 * v14)) + v12))))) with h19 | h19
                · rw [if_pos h19] at hr
                  repeat (first | with_reducible refine mv ?_ | with_reducible refine m12 rfl ?_ | with_reducible refine TO.nil ?_ | ((with_reducible first | apply TO.mv | apply TO.bin | apply TO.asg); (repeat (focus (show _ = _; first | exact k1 rfl | exact k2 rfl | (simp only [zz, ty_math_bits_Div64, Nat.reduceAdd, Nat.reduceMul, Nat.reduceLeDiff, h1, h2, h3, h12, h17, h19] <;> exact rfl) | exact rfl))); (with_reducible refine TO.here ?_)) | ((with_reducible apply TX.region); (focus (simp only [List.toList_toArray] <;> exact rfl)); (focus rfl); (try dsimp only)) | ((with_reducible apply TX.cond_true); (focus rfl); (focus (first | rfl | (simp only [z1, Bool.not_true, Bool.not_false, h1, h2, h3, h12, h17, h19]; done)))) | ((with_reducible apply TX.cond_false); (focus rfl); (focus (first | rfl | (simp only [z1, Bool.not_true, Bool.not_false, h1, h2, h3, h12, h17, h19]; done)))) | fail)
                  rcases Bool.eq_false_or_eq_true ((decide ((IntKind.u64.wrap (v14 + v8)) ≥ 4294967296))) with h20 | h20
                  · rw [if_pos h20] at hr
                    repeat (first | with_reducible refine mv ?_ | with_reducible refine m12 rfl ?_ | ((with_reducible apply TX.cond_true); (focus rfl); (focus (first | rfl | (simp only [z1, Bool.not_true, Bool.not_false, h1, h2, h3, h12, h17, h19, h20]; done)))) | ((with_reducible apply TX.cond_false); (focus rfl); (focus (first | rfl | (simp only [z1, Bool.not_true, Bool.not_false, h1, h2, h3, h12, h17, h19, h20]; done)))) | fail)
                    cases hr
                    refine ⟨rfl, ?_⟩
                    exact Wk.ren [] rfl .nil (by (repeat (first | exact RNs.nil | refine RNs.cons .junk ?_ | refine RNs.cons (.keep rfl rfl) ?_ | refine RNs.cons (.lsl rfl rfl) ?_ | refine RNs.cons (.lsl rfl (by simp only [List.length_set])) ?_ | refine RNs.cons (.lptr rfl) ?_ | refine RNs.cons (.nil rfl) ?_ | refine RNs.cons .nl ?_ | refine RNs.cons (.keep (by simp only [h1, h2, h3, h17, h19, h20]) rfl) ?_ | refine RNs.cons (.tuple' ?_) ?_ | refine RNs.cons (.agg' ?_) ?_)))
                  · rw [if_neg (by rw [h20]; exact Bool.false_ne_true)] at hr
                    repeat (first | with_reducible refine mv ?_ | with_reducible refine m12 rfl ?_ | ((with_reducible apply TX.cond_true); (focus rfl); (focus (first | rfl | (simp only [z1, Bool.not_true, Bool.not_false, h1, h2, h3, h12, h17, h19, h20]; done)))) | ((with_reducible apply TX.cond_false); (focus rfl); (focus (first | rfl | (simp only [z1, Bool.not_true, Bool.not_false, h1, h2, h3, h12, h17, h19, h20]; done)))) | fail)
                    cases hr
                    refine ⟨rfl, ?_⟩
                    exact Wk.ren [] rfl .nil (by (repeat (first | exact RNs.nil | refine RNs.cons .junk ?_ | refine RNs.cons (.keep rfl rfl) ?_ | refine RNs.cons (.lsl rfl rfl) ?_ | refine RNs.cons (.lsl rfl (by simp only [List.length_set])) ?_ | refine RNs.cons (.lptr rfl) ?_ | refine RNs.cons (.nil rfl) ?_ | refine RNs.cons .nl ?_ | refine RNs.cons (.keep (by simp only [h1, h2, h3, h17, h19, h20]) rfl) ?_ | refine RNs.cons (.tuple' ?_) ?_ | refine RNs.cons (.agg' ?_) ?_)))
                · rw [if_neg (by rw [h19]; exact Bool.false_ne_true)] at hr
                  repeat (first | with_reducible refine mv ?_ | with_reducible refine m12 rfl ?_ | ((with_reducible apply TX.cond_true); (focus rfl); (focus (first | rfl | (simp only [z1, Bool.not_true, Bool.not_false, h1, h2, h3, h12, h17, h19]; done)))) | ((with_reducible apply TX.cond_false); (focus rfl); (focus (first | rfl | (simp only [z1, Bool.not_true, Bool.not_false, h1, h2, h3, h12, h17, h19]; done)))) | fail)
                  cases hr
                  refine ⟨rfl, ?_⟩
                  exact Wk.ren [] rfl .nil (by (repeat (first | exact RNs.nil | refine RNs.cons .junk ?_ | refine RNs.cons (.keep rfl rfl) ?_ | refine RNs.cons (.lsl rfl rfl) ?_ | refine RNs.cons (.lsl rfl (by simp only [List.length_set])) ?_ | refine RNs.cons (.lptr rfl) ?_ | refine RNs.cons (.nil rfl) ?_ | refine RNs.cons .nl ?_ | refine RNs.cons (.keep (by simp only [h1, h2, h3, h17, h19]) rfl) ?_ | refine RNs.cons (.tuple' ?_) ?_ | refine RNs.cons (.agg' ?_) ?_)))
            · intro e h; cases h
            · try dsimp only
              repeat (first | with_reducible refine mv ?_ | with_reducible refine m12 rfl ?_ | with_reducible refine TO.nil ?_ | ((with_reducible first | apply TO.mv | apply TO.bin | apply TO.asg); (repeat (focus (show _ = _; first | exact k1 rfl | exact k2 rfl | (simp only [zz, ty_math_bits_Div64, Nat.reduceAdd, Nat.reduceMul, Nat.reduceLeDiff, h1, h2, h3, h12] <;> exact rfl) | exact rfl))); (with_reducible refine TO.here ?_)) | ((with_reducible apply TX.region); (focus (simp only [List.toList_toArray] <;> exact rfl)); (focus rfl); (try dsimp only)) | fail)
              obtain ⟨v20, h30, hr⟩ := Option.bind_eq_some_iff.1 hr
              try dsimp only at hr
              refine TX.loopE (step := math_bits_Div64_l2 v7 v8 v11) (x := ((IntKind.u64.wrap ((IntKind.u64.wrap ((IntKind.u64.wrap ((IntKind.u64.wrap ((bitI .or .u64 v9 v10) * 4294967296)) + v12)) - (IntKind.u64.wrap (v16 * v7)))) - (IntKind.u64.wrap ((IntKind.u64.wrap ((IntKind.u64.wrap ((IntKind.u64.wrap ((IntKind.u64.wrap ((bitI .or .u64 v9 v10) * 4294967296)) + v12)) - (IntKind.u64.wrap (v16 * v7)))).tdiv v8)) * v8)))), (IntKind.u64.wrap ((IntKind.u64.wrap ((IntKind.u64.wrap ((IntKind.u64.wrap ((bitI .or .u64 v9 v10) * 4294967296)) + v12)) - (IntKind.u64.wrap (v16 * v7)))).tdiv v8)))) h30 (fun (v17, v18) => ⟨.junk :: .junk :: .v (.int .u64 v7) :: .junk :: .junk :: .junk :: .junk :: .junk :: .v (.int .u64 (IntKind.u64.wrap v6)) :: .v (.int .u64 v8) :: .v (.int .u64 (bitI .and .u64 v7 4294967295)) :: .junk :: .junk :: .junk :: .v (.int .u64 (bitI .and .u64 v11 4294967295)) :: .v (.int .u64 v16) :: .v (.int .u64 v17) :: .v (.int .u64 (IntKind.u64.wrap ((IntKind.u64.wrap ((IntKind.u64.wrap ((bitI .or .u64 v9 v10) * 4294967296)) + v12)) - (IntKind.u64.wrap (v16 * v7))))) :: .v (.int .u64 v18) :: .junk :: .junk :: .junk :: .junk :: .junk :: .junk :: .junk :: .junk :: .junk :: .junk :: .junk :: .junk :: .junk :: .junk :: .junk :: .junk :: .junk :: .junk :: .junk :: .junk :: .junk :: .junk :: .junk :: .junk :: .junk :: .junk :: .junk :: .junk :: .junk :: .junk :: .junk :: .junk :: .junk :: .junk :: .junk :: .junk :: .junk :: .junk :: .junk :: .junk :: .junk :: .junk :: .junk :: .junk :: .junk :: .junk :: .junk :: .junk :: .junk :: .junk :: .junk :: .junk :: .junk :: .junk :: .junk :: .junk :: .junk :: .junk :: .junk :: .junk :: .junk :: .junk :: .junk :: .junk :: .junk :: .junk :: .junk :: .junk :: .junk :: .junk :: .junk :: .junk :: .junk :: .junk :: .junk :: .junk :: .junk :: .junk :: .junk :: .junk :: .junk :: .junk :: .junk :: .junk :: .junk :: .junk :: .junk :: .junk :: .junk :: .junk :: .junk :: .junk :: .junk :: .junk :: .junk :: .junk :: .junk :: .junk :: .junk :: .junk :: .junk :: .junk :: .junk :: .junk :: .junk :: .junk :: .junk :: .junk :: .junk :: .junk :: .junk :: .junk :: .junk :: .junk :: .junk :: .junk :: [], []⟩) (fun v19 => (.exit 2, ⟨.junk :: .junk :: .v (.int .u64 v7) :: .junk :: .junk :: .junk :: .junk :: .junk :: .v (.int .u64 (IntKind.u64.wrap v6)) :: .junk :: .junk :: .junk :: .junk :: .junk :: .v (.int .u64 (bitI .and .u64 v11 4294967295)) :: .v (.int .u64 v16) :: .junk :: .v (.int .u64 (IntKind.u64.wrap ((IntKind.u64.wrap ((IntKind.u64.wrap ((bitI .or .u64 v9 v10) * 4294967296)) + v12)) - (IntKind.u64.wrap (v16 * v7))))) :: .v (.int .u64 v19) :: .junk :: .junk :: .junk :: .junk :: .junk :: .junk :: .junk :: .junk :: .junk :: .junk :: .junk :: .junk :: .junk :: .junk :: .junk :: .junk :: .junk :: .junk :: .junk :: .junk :: .junk :: .junk :: .junk :: .junk :: .junk :: .junk :: .junk :: .junk :: .junk :: .junk :: .junk :: .junk :: .junk :: .junk :: .junk :: .junk :: .junk :: .junk :: .junk :: .junk :: .junk :: .junk :: .junk :: .junk :: .junk :: .junk :: .junk :: .junk :: .junk :: .junk :: .junk :: .junk :: .junk :: .junk :: .junk :: .junk :: .junk :: .junk :: .junk :: .junk :: .junk :: .junk :: .junk :: .junk :: .junk :: .junk :: .junk :: .junk :: .junk :: .junk :: .junk :: .junk :: .junk :: .junk :: .junk :: .junk :: .junk :: .junk :: .junk :: .junk :: .junk :: .junk :: .junk :: .junk :: .junk :: .junk :: .junk :: .junk :: .junk :: .junk :: .junk :: .junk :: .junk :: .junk :: .junk :: .junk :: .junk :: .junk :: .junk :: .junk :: .junk :: .junk :: .junk :: .junk :: .junk :: .junk :: .junk :: .junk :: .junk :: .junk :: .junk :: .junk :: .junk :: .junk :: .junk :: .junk :: [], []⟩)) ?_ ?_ ?_ ?_
              · rintro ⟨v17, v18⟩ v0 hr
                dsimp only [math_bits_Div64_l2] at hr
                try dsimp only
                repeat (first | with_reducible refine mv ?_ | with_reducible refine m12 rfl ?_ | with_reducible refine TO.nil ?_ | ((with_reducible first | apply TO.mv | apply TO.bin); (repeat (focus (show _ = _; first | exact k1 rfl | exact k2 rfl | (simp only [zz, ty_math_bits_Div64, Nat.reduceAdd, Nat.reduceMul, Nat.reduceLeDiff, h1, h2, h3, h12] <;> exact rfl) | exact rfl))); (with_reducible refine TO.here ?_)) | ((with_reducible apply TX.region); (focus (simp only [List.toList_toArray] <;> exact rfl)); (focus rfl); (try dsimp only)) | fail)
                rcases Bool.eq_false_or_eq_true ((decide (v18 ≥ 4294967296))) with h26 | h26
                · rw [if_pos h26] at hr
                  repeat (first | with_reducible refine mv ?_ | with_reducible refine m12 rfl ?_ | with_reducible refine TO.nil ?_ | ((with_reducible first | apply TO.pk | apply TO.mv | apply TO.bin | apply TO.asg); (repeat (focus (show _ = _; first | exact k1 rfl | exact k2 rfl | (simp only [zz, ty_math_bits_Div64, Nat.reduceAdd, Nat.reduceMul, Nat.reduceLeDiff, h1, h2, h3, h12, h26] <;> exact rfl) | exact rfl))); (with_reducible refine TO.here ?_)) | ((with_reducible apply TO.skip1); (repeat (focus (show _ = _; first | exact k1 rfl | exact k2 rfl | (simp only [zz, ty_math_bits_Div64, Nat.reduceAdd, Nat.reduceMul, Nat.reduceLeDiff, twant, List.getElem?_toArray, Option.bind_some, h1, h2, h3, h12, h26] <;> exact rfl) | exact rfl))); (with_reducible refine TO.here ?_)) | ((with_reducible apply TX.region); (focus (simp only [List.toList_toArray] <;> exact rfl)); (focus rfl); (try dsimp only)) | ((with_reducible apply TX.cond_true); (focus rfl); (focus (first | rfl | (simp only [z1, Bool.not_true, Bool.not_false, h1, h2, h3, h12, h26]; done)))) | ((with_reducible apply TX.cond_false); (focus rfl); (focus (first | rfl | (simp only [z1, Bool.not_true, Bool.not_false, h1, h2, h3, h12, h26]; done)))) | fail)
                  rcases Bool.eq_false_or_eq_true ((decide ((IntKind.u64.wrap (v17 + v8)) ≥ 4294967296))) with h27 | h27
                  · rw [if_pos h27] at hr
                    repeat (first | with_reducible refine mv ?_ | with_reducible refine m12 rfl ?_ | ((with_reducible apply TX.cond_true); (focus rfl); (focus (first | rfl | (simp only [z1, Bool.not_true, Bool.not_false, h1, h2, h3, h12, h26, h27]; done)))) | ((with_reducible apply TX.cond_false); (focus rfl); (focus (first | rfl | (simp only [z1, Bool.not_true, Bool.not_false, h1, h2, h3, h12, h26, h27]; done)))) | fail)
                    cases hr
                    refine ⟨rfl, ?_⟩
                    exact Wk.ren [] rfl .nil (by (repeat (first | exact RNs.nil | refine RNs.cons .junk ?_ | refine RNs.cons (.keep rfl rfl) ?_ | refine RNs.cons (.lsl rfl rfl) ?_ | refine RNs.cons (.lsl rfl (by simp only [List.length_set])) ?_ | refine RNs.cons (.lptr rfl) ?_ | refine RNs.cons (.nil rfl) ?_ | refine RNs.cons .nl ?_ | refine RNs.cons (.keep (by simp only [h1, h2, h3, h26, h27]) rfl) ?_ | refine RNs.cons (.tuple' ?_) ?_ | refine RNs.cons (.agg' ?_) ?_)))
                  · rw [if_neg (by rw [h27]; exact Bool.false_ne_true)] at hr
                    repeat (first | with_reducible refine mv ?_ | with_reducible refine m12 rfl ?_ | ((with_reducible apply TX.cond_true); (focus rfl); (focus (first | rfl | (simp only [z1, Bool.not_true, Bool.not_false, h1, h2, h3, h12, h26, h27]; done)))) | ((with_reducible apply TX.cond_false); (focus rfl); (focus (first | rfl | (simp only [z1, Bool.not_true, Bool.not_false, h1, h2, h3, h12, h26, h27]; done)))) | fail)
                    cases hr
                    refine ⟨rfl, ?_⟩
                    exact Wk.ren [] rfl .nil (by (repeat (first | exact RNs.nil | refine RNs.cons .junk ?_ | refine RNs.cons (.keep rfl rfl) ?_ | refine RNs.cons (.lsl rfl rfl) ?_ | refine RNs.cons (.lsl rfl (by simp only [List.length_set])) ?_ | refine RNs.cons (.lptr rfl) ?_ | refine RNs.cons (.nil rfl) ?_ | refine RNs.cons .nl ?_ | refine RNs.cons (.keep (by simp only [h1, h2, h3, h26, h27]) rfl) ?_ | refine RNs.cons (.tuple' ?_) ?_ | refine RNs.cons (.agg' ?_) ?_)))
                · rw [if_neg (by rw [h26]; exact Bool.false_ne_true)] at hr
                  repeat (first | with_reducible refine mv ?_ | with_reducible refine m12 rfl ?_ | with_reducible refine TO.nil ?_ | ((with_reducible first | apply TO.mv | apply TO.bin | apply TO.pk); (repeat (focus (show _ = _; first | exact k1 rfl | exact k2 rfl | (simp only [zz, ty_math_bits_Div64, Nat.reduceAdd, Nat.reduceMul, Nat.reduceLeDiff, h1, h2, h3, h12, h26] <;> exact rfl) | exact rfl))); (with_reducible refine TO.here ?_)) | ((with_reducible apply TX.region); (focus (simp only [List.toList_toArray] <;> exact rfl)); (focus rfl); (try dsimp only)) | ((with_reducible apply TX.cond_true); (focus rfl); (focus (first | rfl | (simp only [z1, Bool.not_true, Bool.not_false, h1, h2, h3, h12, h26]; done)))) | ((with_reducible apply TX.cond_false); (focus rfl); (focus (first | rfl | (simp only [z1, Bool.not_true, Bool.not_false, h1, h2, h3, h12, h26]; done)))) | fail)
                  rcases Bool.eq_false_or_eq_true ((decide ((IntKind.u64.wrap (v18 * (bitI .and .u64 v7 4294967295))) > (IntKind.u64.wrap ((IntKind.u64.wrap (4294967296 * v17)) + (bitI .and .u64 v11 4294967295)))))) with h28 | h28
                  · rw [if_pos h28] at hr
                    repeat (first | with_reducible refine mv ?_ | with_reducible refine m12 rfl ?_ | with_reducible refine TO.nil ?_ | ((with_reducible first | apply TO.mv | apply TO.bin | apply TO.asg); (repeat (focus (show _ = _; first | exact k1 rfl | exact k2 rfl | (simp only [zz, ty_math_bits_Div64, Nat.reduceAdd, Nat.reduceMul, Nat.reduceLeDiff, h1, h2, h3, h12, h26, h28] <;> exact rfl) | exact rfl))); (with_reducible refine TO.here ?_)) | ((with_reducible apply TX.region); (focus (simp only [List.toList_toArray] <;> exact rfl)); (focus rfl); (try dsimp only)) | ((with_reducible apply TX.cond_true); (focus rfl); (focus (first | rfl | (simp only [z1, Bool.not_true, Bool.not_false, h1, h2, h3, h12, h26, h28]; done)))) | ((with_reducible apply TX.cond_false); (focus rfl); (focus (first | rfl | (simp only [z1, Bool.not_true, Bool.not_false, h1, h2, h3, h12, h26, h28]; done)))) | fail)
                    rcases Bool.eq_false_or_eq_true ((decide ((IntKind.u64.wrap (v17 + v8)) ≥ 4294967296))) with h29 | h29
                    · rw [if_pos h29] at hr
                      repeat (first | with_reducible refine mv ?_ | with_reducible refine m12 rfl ?_ | ((with_reducible apply TX.cond_true); (focus rfl); (focus (first | rfl | (simp only [z1, Bool.not_true, Bool.not_false, h1, h2, h3, h12, h26, h28, h29]; done)))) | ((with_reducible apply TX.cond_false); (focus rfl); (focus (first | rfl | (simp only [z1, Bool.not_true, Bool.not_false, h1, h2, h3, h12, h26, h28, h29]; done)))) | fail)
                      cases hr
                      refine ⟨rfl, ?_⟩
                      exact Wk.ren [] rfl .nil (by (repeat (first | exact RNs.nil | refine RNs.cons .junk ?_ | refine RNs.cons (.keep rfl rfl) ?_ | refine RNs.cons (.lsl rfl rfl) ?_ | refine RNs.cons (.lsl rfl (by simp only [List.length_set])) ?_ | refine RNs.cons (.lptr rfl) ?_ | refine RNs.cons (.nil rfl) ?_ | refine RNs.cons .nl ?_ | refine RNs.cons (.keep (by simp only [h1, h2, h3, h26, h28, h29]) rfl) ?_ | refine RNs.cons (.tuple' ?_) ?_ | refine RNs.cons (.agg' ?_) ?_)))
                    · rw [if_neg (by rw [h29]; exact Bool.false_ne_true)] at hr
                      repeat (first | with_reducible refine mv ?_ | with_reducible refine m12 rfl ?_ | ((with_reducible apply TX.cond_true); (focus rfl); (focus (first | rfl | (simp only [z1, Bool.not_true, Bool.not_false, h1, h2, h3, h12, h26, h28, h29]; done)))) | ((with_reducible apply TX.cond_false); (focus rfl); (focus (first | rfl | (simp only [z1, Bool.not_true, Bool.not_false, h1, h2, h3, h12, h26, h28, h29]; done)))) | fail)
                      cases hr
                      refine ⟨rfl, ?_⟩
                      exact Wk.ren [] rfl .nil (by (repeat (first | exact RNs.nil | refine RNs.cons .junk ?_ | refine RNs.cons (.keep rfl rfl) ?_ | refine RNs.cons (.lsl rfl rfl) ?_ | refine RNs.cons (.lsl rfl (by simp only [List.length_set])) ?_ | refine RNs.cons (.lptr rfl) ?_ | refine RNs.cons (.nil rfl) ?_ | refine RNs.cons .nl ?_ | refine RNs.cons (.keep (by simp only [h1, h2, h3, h26, h28, h29]) rfl) ?_ | refine RNs.cons (.tuple' ?_) ?_ | refine RNs.cons (.agg' ?_) ?_)))
                  · rw [if_neg (by rw [h28]; exact Bool.false_ne_true)] at hr
                    repeat (first | with_reducible refine mv ?_ | with_reducible refine m12 rfl ?_ | ((with_reducible apply TX.cond_true); (focus rfl); (focus (first | rfl | (simp only [z1, Bool.not_true, Bool.not_false, h1, h2, h3, h12, h26, h28]; done)))) | ((with_reducible apply TX.cond_false); (focus rfl); (focus (first | rfl | (simp only [z1, Bool.not_true, Bool.not_false, h1, h2, h3, h12, h26, h28]; done)))) | fail)
                    cases hr
                    refine ⟨rfl, ?_⟩
                    exact Wk.ren [] rfl .nil (by (repeat (first | exact RNs.nil | refine RNs.cons .junk ?_ | refine RNs.cons (.keep rfl rfl) ?_ | refine RNs.cons (.lsl rfl rfl) ?_ | refine RNs.cons (.lsl rfl (by simp only [List.length_set])) ?_ | refine RNs.cons (.lptr rfl) ?_ | refine RNs.cons (.nil rfl) ?_ | refine RNs.cons .nl ?_ | refine RNs.cons (.keep (by simp only [h1, h2, h3, h26, h28]) rfl) ?_ | refine RNs.cons (.tuple' ?_) ?_ | refine RNs.cons (.agg' ?_) ?_)))
              · intro e h; cases h
              · try dsimp only
                repeat (first | with_reducible refine mv ?_ | with_reducible refine m12 rfl ?_ | with_reducible refine TO.nil ?_ | ((with_reducible first | apply TO.mv | apply TO.bin); (repeat (focus (show _ = _; first | exact k1 rfl | exact k2 rfl | (simp only [zz, ty_math_bits_Div64, Nat.reduceAdd, Nat.reduceMul, Nat.reduceLeDiff, h1, h2, h3, h12] <;> exact rfl) | exact rfl))); (with_reducible refine TO.here ?_)) | ((with_reducible apply TX.region); (focus (simp only [List.toList_toArray] <;> exact rfl)); (focus rfl); (try dsimp only)) | fail)
                obtain ⟨v21, h31, hr⟩ := Option.bind_eq_some_iff.1 hr
                try dsimp only at hr
                apply TO.pop1 (by first | rfl | (simp only [twant, z1, List.getElem?_toArray, Option.bind_some, h1, h2, h3, h12]; done)) (pop_shift rfl rfl (by decide) (h31))
                (repeat (focus (show _ = _; first | exact k1 rfl | exact k2 rfl | (simp only [zz, ty_math_bits_Div64, Nat.reduceAdd, Nat.reduceMul, Nat.reduceLeDiff, h1, h2, h3, h12] <;> exact rfl) | exact rfl)))
                with_reducible apply TO.here
                repeat (first | with_reducible refine mv ?_ | with_reducible refine m12 rfl ?_ | with_reducible refine TO.nil ?_ | ((with_reducible first | apply TO.asg); (repeat (focus (show _ = _; first | exact k1 rfl | exact k2 rfl | (simp only [zz, ty_math_bits_Div64, Nat.reduceAdd, Nat.reduceMul, Nat.reduceLeDiff, h1, h2, h3, h12] <;> exact rfl) | exact rfl))); (with_reducible refine TO.here ?_)) | ((with_reducible apply TX.region); (focus (simp only [List.toList_toArray] <;> exact rfl)); (focus rfl); (try dsimp only)) | fail)
                cases hr
                refine ⟨.inr rfl, _, (by simp only [zy, ty_math_bits_Div64, tresAll, tres, tload, rowOf, partT, h1, h2, h3, h12]; exact rfl), ?_⟩
                exact Wk.ren [] rfl .nil (by (repeat (first | exact RNs.nil | refine RNs.cons .junk ?_ | refine RNs.cons (.keep rfl rfl) ?_ | refine RNs.cons (.lsl rfl rfl) ?_ | refine RNs.cons (.lsl rfl (by simp only [List.length_set])) ?_ | refine RNs.cons (.lptr rfl) ?_ | refine RNs.cons (.nil rfl) ?_ | refine RNs.cons .nl ?_ | refine RNs.cons (.keep (by simp only [h1, h2, h3]) rfl) ?_ | refine RNs.cons (.tuple' ?_) ?_ | refine RNs.cons (.agg' ?_) ?_)))
              · try dsimp only
                exact Wk.ren [] rfl .nil (by (repeat (first | exact RNs.nil | refine RNs.cons .junk ?_ | refine RNs.cons (.keep rfl rfl) ?_ | refine RNs.cons (.lsl rfl rfl) ?_ | refine RNs.cons (.lsl rfl (by simp only [List.length_set])) ?_ | refine RNs.cons (.lptr rfl) ?_ | refine RNs.cons (.nil rfl) ?_ | refine RNs.cons .nl ?_ | refine RNs.cons (.keep (by simp only [h1, h2, h3]) rfl) ?_ | refine RNs.cons (.tuple' ?_) ?_ | refine RNs.cons (.agg' ?_) ?_)))
            · try dsimp only
              exact Wk.ren [] rfl .nil (by (repeat (first | exact RNs.nil | refine RNs.cons .junk ?_ | refine RNs.cons (.keep rfl rfl) ?_ | refine RNs.cons (.lsl rfl rfl) ?_ | refine RNs.cons (.lsl rfl (by simp only [List.length_set])) ?_ | refine RNs.cons (.lptr rfl) ?_ | refine RNs.cons (.nil rfl) ?_ | refine RNs.cons .nl ?_ | refine RNs.cons (.keep (by simp only [h1, h2, h3]) rfl) ?_ | refine RNs.cons (.tuple' ?_) ?_ | refine RNs.cons (.agg' ?_) ?_)))
  rfl

end Go.Rex

namespace Go.Rex
open Go.Proofs
open Go Go.Rex Go.RowKit
set_option maxRecDepth 100000
def ty_filter_wide_over := an @ag172 <| an @fd174_0 <| an @fd174_1 <| an @un172 <| @un3
theorem filter_wide_over_spec {v1 : Int} {v2 : Int} {v3 : Int} {v4 : Int} {v5 : Int} (hr : filter_wide_over v1 v2 v3 = some (v4, v5)) : Spec (lim Try.prog) 129 [.agg [.v (.int .u64 v1), .v (.int .u64 v2)], .v (.int .i64 v3)] ⟨[.tuple [.v (.int .i64 v4), .v (.int .i64 v5)]], []⟩ := by
  unfold filter_wide_over at hr
  apply Spec.fn Try.func129 rfl
  focus (simp [Try.f129] <;> exact rfl)
  focus
    repeat (first | with_reducible refine mv ?_ | with_reducible refine m12 rfl ?_ | with_reducible refine TO.nil ?_ | ((with_reducible first | apply TO.bf | apply TO.asg | apply TO.fa | apply TO.ld | apply TO.mv); (repeat (focus (show _ = _; first | exact k1 rfl | exact k2 rfl | (simp only [zz, ty_filter_wide_over, Nat.reduceAdd, Nat.reduceMul, Nat.reduceLeDiff, tfieldAddr, tload, rowOf, partT, List.getElem?_map] <;> exact rfl) | exact rfl))); (with_reducible refine TO.here ?_)) | ((with_reducible apply TX.region); (focus (simp only [List.toList_toArray] <;> exact rfl)); (focus rfl); (try dsimp only)) | fail)
    apply TO.pop1 (by first | rfl | (simp only [twant, z1, List.getElem?_toArray, Option.bind_some]; done)) (cvt_int_int un3 un172 rfl)
    (repeat (focus (show _ = _; first | exact k1 rfl | exact k2 rfl | (simp only [zz, ty_filter_wide_over, Nat.reduceAdd, Nat.reduceMul, Nat.reduceLeDiff] <;> exact rfl) | exact rfl)))
    with_reducible apply TO.here
    repeat (first | with_reducible refine mv ?_ | with_reducible refine m12 rfl ?_ | with_reducible refine TO.nil ?_ | ((with_reducible apply TX.region); (focus (simp only [List.toList_toArray] <;> exact rfl)); (focus rfl); (try dsimp only)) | fail)
    obtain ⟨⟨v6, v7⟩, h1, hr⟩ := Option.bind_eq_some_iff.1 hr
    try dsimp only at hr
    apply TO.cal (by first | rfl | (simp only [twant, z1, List.getElem?_toArray, Option.bind_some]; done)) rfl goFn132 (math_bits_Div64_spec h1) rfl rfl rfl
    (repeat (focus (show _ = _; first | exact k1 rfl | exact k2 rfl | (simp only [zz, ty_filter_wide_over, Nat.reduceAdd, Nat.reduceMul, Nat.reduceLeDiff, shift, kill, killB, frz, frzB, view, tml, tmlc, List.length_set] <;> exact rfl) | exact rfl)))
    with_reducible apply TO.here
    repeat (first | with_reducible refine mv ?_ | with_reducible refine m12 rfl ?_ | with_reducible refine TO.nil ?_ | ((with_reducible first | apply TO.mv | apply TO.ext | apply TO.asg); (repeat (focus (show _ = _; first | exact k1 rfl | exact k2 rfl | (simp only [zz, ty_filter_wide_over, Nat.reduceAdd, Nat.reduceMul, Nat.reduceLeDiff] <;> exact rfl) | exact rfl))); (with_reducible refine TO.here ?_)) | ((with_reducible apply TX.region); (focus (simp only [List.toList_toArray] <;> exact rfl)); (focus rfl); (try dsimp only)) | fail)
    apply TO.pop1 (by first | rfl | (simp only [twant, z1, List.getElem?_toArray, Option.bind_some]; done)) (cvt_int_int un172 un3 rfl)
    (repeat (focus (show _ = _; first | exact k1 rfl | exact k2 rfl | (simp only [zz, ty_filter_wide_over, Nat.reduceAdd, Nat.reduceMul, Nat.reduceLeDiff] <;> exact rfl) | exact rfl)))
    with_reducible apply TO.here
    repeat (first | with_reducible refine mv ?_ | with_reducible refine m12 rfl ?_ | with_reducible refine TO.nil ?_ | ((with_reducible first | apply TO.mv); (repeat (focus (show _ = _; first | exact k1 rfl | exact k2 rfl | (simp only [zz, ty_filter_wide_over, Nat.reduceAdd, Nat.reduceMul, Nat.reduceLeDiff] <;> exact rfl) | exact rfl))); (with_reducible refine TO.here ?_)) | ((with_reducible apply TX.region); (focus (simp only [List.toList_toArray] <;> exact rfl)); (focus rfl); (try dsimp only)) | fail)
    apply TO.pop1 (by first | rfl | (simp only [twant, z1, List.getElem?_toArray, Option.bind_some]; done)) (cvt_int_int un172 un3 rfl)
    (repeat (focus (show _ = _; first | exact k1 rfl | exact k2 rfl | (simp only [zz, ty_filter_wide_over, Nat.reduceAdd, Nat.reduceMul, Nat.reduceLeDiff] <;> exact rfl) | exact rfl)))
    with_reducible apply TO.here
    repeat (first | with_reducible refine mv ?_ | with_reducible refine m12 rfl ?_ | with_reducible refine TO.nil ?_ | ((with_reducible first | apply TO.asg | apply TO.mv | apply TO.bin); (repeat (focus (show _ = _; first | exact k1 rfl | exact k2 rfl | (simp only [zz, ty_filter_wide_over, Nat.reduceAdd, Nat.reduceMul, Nat.reduceLeDiff] <;> exact rfl) | exact rfl))); (with_reducible refine TO.here ?_)) | ((with_reducible apply TX.region); (focus (simp only [List.toList_toArray] <;> exact rfl)); (focus rfl); (try dsimp only)) | ((with_reducible apply TX.cond_true); (focus rfl); (focus (first | rfl | (simp only [z1, Bool.not_true, Bool.not_false]; done)))) | ((with_reducible apply TX.cond_false); (focus rfl); (focus (first | rfl | (simp only [z1, Bool.not_true, Bool.not_false]; done)))) | fail)
    rcases Bool.eq_false_or_eq_true ((decide (v7 > 0))) with h2 | h2
    · rw [if_pos h2] at hr
      repeat (first | with_reducible refine mv ?_ | with_reducible refine m12 rfl ?_ | with_reducible refine TO.nil ?_ | ((with_reducible first | apply TO.mv | apply TO.bin | apply TO.asg); (repeat (focus (show _ = _; first | exact k1 rfl | exact k2 rfl | (simp only [zz, ty_filter_wide_over, Nat.reduceAdd, Nat.reduceMul, Nat.reduceLeDiff, h2] <;> exact rfl) | exact rfl))); (with_reducible refine TO.here ?_)) | ((with_reducible apply TX.region); (focus (simp only [List.toList_toArray] <;> exact rfl)); (focus rfl); (try dsimp only)) | ((with_reducible apply TX.cond_true); (focus rfl); (focus (first | rfl | (simp only [z1, Bool.not_true, Bool.not_false, h2]; done)))) | ((with_reducible apply TX.cond_false); (focus rfl); (focus (first | rfl | (simp only [z1, Bool.not_true, Bool.not_false, h2]; done)))) | fail)
      cases hr
      refine ⟨.inr rfl, _, (by simp only [zy, ty_filter_wide_over, tresAll, tres, tload, rowOf, partT, h2]; exact rfl), ?_⟩
      exact Wk.ren [] rfl .nil (by (repeat (first | exact RNs.nil | refine RNs.cons .junk ?_ | refine RNs.cons (.keep rfl rfl) ?_ | refine RNs.cons (.lsl rfl rfl) ?_ | refine RNs.cons (.lsl rfl (by simp only [List.length_set])) ?_ | refine RNs.cons (.lptr rfl) ?_ | refine RNs.cons (.nil rfl) ?_ | refine RNs.cons .nl ?_ | refine RNs.cons (.keep (by simp only [h2]) rfl) ?_ | refine RNs.cons (.tuple' ?_) ?_ | refine RNs.cons (.agg' ?_) ?_)))
    · rw [if_neg (by rw [h2]; exact Bool.false_ne_true)] at hr
      repeat (first | with_reducible refine mv ?_ | with_reducible refine m12 rfl ?_ | with_reducible refine TO.nil ?_ | ((with_reducible first | apply TO.mv | apply TO.asg); (repeat (focus (show _ = _; first | exact k1 rfl | exact k2 rfl | (simp only [zz, ty_filter_wide_over, Nat.reduceAdd, Nat.reduceMul, Nat.reduceLeDiff, h2] <;> exact rfl) | exact rfl))); (with_reducible refine TO.here ?_)) | ((with_reducible apply TX.region); (focus (simp only [List.toList_toArray] <;> exact rfl)); (focus rfl); (try dsimp only)) | ((with_reducible apply TX.cond_true); (focus rfl); (focus (first | rfl | (simp only [z1, Bool.not_true, Bool.not_false, h2]; done)))) | ((with_reducible apply TX.cond_false); (focus rfl); (focus (first | rfl | (simp only [z1, Bool.not_true, Bool.not_false, h2]; done)))) | fail)
      cases hr
      refine ⟨.inr rfl, _, (by simp only [zy, ty_filter_wide_over, tresAll, tres, tload, rowOf, partT, h2]; exact rfl), ?_⟩
      exact Wk.ren [] rfl .nil (by (repeat (first | exact RNs.nil | refine RNs.cons .junk ?_ | refine RNs.cons (.keep rfl rfl) ?_ | refine RNs.cons (.lsl rfl rfl) ?_ | refine RNs.cons (.lsl rfl (by simp only [List.length_set])) ?_ | refine RNs.cons (.lptr rfl) ?_ | refine RNs.cons (.nil rfl) ?_ | refine RNs.cons .nl ?_ | refine RNs.cons (.keep (by simp only [h2]) rfl) ?_ | refine RNs.cons (.tuple' ?_) ?_ | refine RNs.cons (.agg' ?_) ?_)))
  rfl

end Go.Rex

namespace Go.Rex
open Go.Proofs
open Go Go.Rex Go.RowKit
set_option maxRecDepth 100000
def ty_filter_gain_inParts := an @ag174 <| an @ag3 <| an @cs174 <| an @fd169_0 <| an @fd169_1 <| an @ok174 <| @zc174
theorem filter_gain_inParts_spec {v1 : Int} {v2 : Int} {v3 : Int} {v4 : Int} {v5 : Int} (hr : filter_gain_inParts v1 v2 = some (v3, v4, v5)) : Spec (lim Try.prog) 124 [.agg [.v (.int .i64 v1), .v (.int .i64 v2)]] ⟨[.tuple [.v (.int .i64 v3), .v (.int .i64 v4), .v (.int .i64 v5)]], []⟩ := by
  unfold filter_gain_inParts at hr
  apply Spec.fn Try.func124 rfl
  focus (simp [Try.f124] <;> exact rfl)
  focus
    repeat (first | with_reducible refine mv ?_ | with_reducible refine m12 rfl ?_ | with_reducible refine TO.nil ?_ | ((with_reducible first | apply TO.bf | apply TO.asg | apply TO.fa | apply TO.ld); (repeat (focus (show _ = _; first | exact k1 rfl | exact k2 rfl | (simp only [zz, ty_filter_gain_inParts, Nat.reduceAdd, Nat.reduceMul, Nat.reduceLeDiff, tfieldAddr, tload, rowOf, partT, List.getElem?_map] <;> exact rfl) | exact rfl))); (with_reducible refine TO.here ?_)) | ((with_reducible apply TX.region); (focus (simp only [List.toList_toArray] <;> exact rfl)); (focus rfl); (try dsimp only)) | fail)
    obtain ⟨⟨v6, v7⟩, h1, hr⟩ := Option.bind_eq_some_iff.1 hr
    try dsimp only at hr
    apply TO.cal (by first | rfl | (simp only [twant, z1, List.getElem?_toArray, Option.bind_some]; done)) rfl goFn103 (filter_product_spec h1) rfl rfl rfl
    (repeat (focus (show _ = _; first | exact k1 rfl | exact k2 rfl | (simp only [zz, ty_filter_gain_inParts, Nat.reduceAdd, Nat.reduceMul, Nat.reduceLeDiff, shift, kill, killB, frz, frzB, view, tml, tmlc, List.length_set] <;> exact rfl) | exact rfl)))
    with_reducible apply TO.here
    repeat (first | with_reducible refine mv ?_ | with_reducible refine m12 rfl ?_ | with_reducible refine TO.nil ?_ | ((with_reducible first | apply TO.al | apply TO.sv); (repeat (focus (show _ = _; first | exact k1 rfl | exact k2 rfl | (simp only [zz, ty_filter_gain_inParts, Nat.reduceAdd, Nat.reduceMul, Nat.reduceLeDiff] <;> exact rfl) | exact rfl))); (with_reducible refine TO.here ?_)) | ((with_reducible apply TX.region); (focus (simp only [List.toList_toArray] <;> exact rfl)); (focus rfl); (try dsimp only)) | with_reducible refine TD.nil ?_ | ((with_reducible first | apply TD.ld | apply TD.ldw | apply TD.fa); (repeat (focus (show _ = _; first | exact k1 rfl | exact k2 rfl | (simp only [zz, ty_filter_gain_inParts, Nat.reduceAdd, Nat.reduceMul, Nat.reduceLeDiff, tload, rowOf, partT, List.getElem?_map, tfieldAddr] <;> exact rfl) | exact rfl))); (with_reducible refine TD.here ?_)) | ((with_reducible apply TX.drawn); (focus decide +kernel); (focus (simp only [List.toList_toArray] <;> exact rfl)); (focus exact rfl); (try dsimp only)) | fail)
    obtain ⟨⟨v8, v9⟩, h2, hr⟩ := Option.bind_eq_some_iff.1 hr
    try dsimp only at hr
    first | apply TD.cal (by first | rfl | (simp only [twant, z1, List.getElem?_toArray, Option.bind_some]; done)) rfl goFn103 (filter_product_spec h2) rfl rfl rfl | apply TD.calw (by first | rfl | (simp only [twant, z1, List.getElem?_toArray, Option.bind_some]; done)) rfl goFn103 (filter_product_spec h2) rfl rfl rfl rfl
    (repeat (focus (show _ = _; first | exact k1 rfl | exact k2 rfl | (simp only [zz, ty_filter_gain_inParts, Nat.reduceAdd, Nat.reduceMul, Nat.reduceLeDiff, shift, kill, killB, frz, frzB, view, tml, tmlc, List.length_set] <;> exact rfl) | exact rfl)))
    with_reducible apply TD.here
    repeat (first | with_reducible refine mv ?_ | with_reducible refine m12 rfl ?_ | with_reducible refine TD.nil ?_ | ((with_reducible apply TX.drawn); (focus decide +kernel); (focus (simp only [List.toList_toArray] <;> exact rfl)); (focus exact rfl); (try dsimp only)) | fail)
    obtain ⟨v10, h3, hr⟩ := Option.bind_eq_some_iff.1 hr
    try dsimp only at hr
    first | apply TD.cal (by first | rfl | (simp only [twant, z1, List.getElem?_toArray, Option.bind_some]; done)) rfl goFn104 (filter_wide_compare_spec h3) rfl rfl rfl | apply TD.calw (by first | rfl | (simp only [twant, z1, List.getElem?_toArray, Option.bind_some]; done)) rfl goFn104 (filter_wide_compare_spec h3) rfl rfl rfl rfl
    (repeat (focus (show _ = _; first | exact k1 rfl | exact k2 rfl | (simp only [zz, ty_filter_gain_inParts, Nat.reduceAdd, Nat.reduceMul, Nat.reduceLeDiff, shift, kill, killB, frz, frzB, view, tml, tmlc, List.length_set] <;> exact rfl) | exact rfl)))
    with_reducible apply TD.here
    repeat (first | with_reducible refine mv ?_ | with_reducible refine m12 rfl ?_ | with_reducible refine TD.nil ?_ | ((with_reducible first | apply TD.bin); (repeat (focus (show _ = _; first | exact k1 rfl | exact k2 rfl | (simp only [zz, ty_filter_gain_inParts, Nat.reduceAdd, Nat.reduceMul, Nat.reduceLeDiff] <;> exact rfl) | exact rfl))); (with_reducible refine TD.here ?_)) | ((with_reducible apply TX.drawn); (focus decide +kernel); (focus (simp only [List.toList_toArray] <;> exact rfl)); (focus exact rfl); (try dsimp only)) | ((with_reducible apply TX.cond_true); (focus rfl); (focus (first | rfl | (simp only [z1, Bool.not_true, Bool.not_false]; done)))) | ((with_reducible apply TX.cond_false); (focus rfl); (focus (first | rfl | (simp only [z1, Bool.not_true, Bool.not_false]; done)))) | fail)
    rcases Bool.eq_false_or_eq_true ((decide (v10 > 0))) with h4 | h4
    · rw [if_pos h4] at hr
      repeat (first | with_reducible refine mv ?_ | with_reducible refine m12 rfl ?_ | with_reducible refine TO.nil ?_ | ((with_reducible first | apply TO.asg); (repeat (focus (show _ = _; first | exact k1 rfl | exact k2 rfl | (simp only [zz, ty_filter_gain_inParts, Nat.reduceAdd, Nat.reduceMul, Nat.reduceLeDiff, h4] <;> exact rfl) | exact rfl))); (with_reducible refine TO.here ?_)) | ((with_reducible apply TX.region); (focus (simp only [List.toList_toArray] <;> exact rfl)); (focus rfl); (try dsimp only)) | ((with_reducible apply TX.cond_true); (focus rfl); (focus (first | rfl | (simp only [z1, Bool.not_true, Bool.not_false, h4]; done)))) | ((with_reducible apply TX.cond_false); (focus rfl); (focus (first | rfl | (simp only [z1, Bool.not_true, Bool.not_false, h4]; done)))) | fail)
      cases hr
      refine ⟨.inr rfl, _, (by simp only [zy, ty_filter_gain_inParts, tresAll, tres, tload, rowOf, partT, h4]; exact rfl), ?_⟩
      exact Wk.ren [] rfl .nil (by (repeat (first | exact RNs.nil | refine RNs.cons .junk ?_ | refine RNs.cons (.keep rfl rfl) ?_ | refine RNs.cons (.lsl rfl rfl) ?_ | refine RNs.cons (.lsl rfl (by simp only [List.length_set])) ?_ | refine RNs.cons (.lptr rfl) ?_ | refine RNs.cons (.nil rfl) ?_ | refine RNs.cons .nl ?_ | refine RNs.cons (.keep (by simp only [h4]) rfl) ?_ | refine RNs.cons (.tuple' ?_) ?_ | refine RNs.cons (.agg' ?_) ?_)))
    · rw [if_neg (by rw [h4]; exact Bool.false_ne_true)] at hr
      repeat (first | with_reducible refine mv ?_ | with_reducible refine m12 rfl ?_ | with_reducible refine TO.nil ?_ | ((with_reducible first | apply TO.ld | apply TO.fa); (repeat (focus (show _ = _; first | exact k1 rfl | exact k2 rfl | (simp only [zz, ty_filter_gain_inParts, Nat.reduceAdd, Nat.reduceMul, Nat.reduceLeDiff, tload, rowOf, partT, List.getElem?_map, tfieldAddr, h4] <;> exact rfl) | exact rfl))); (with_reducible refine TO.here ?_)) | ((with_reducible apply TX.region); (focus (simp only [List.toList_toArray] <;> exact rfl)); (focus rfl); (try dsimp only)) | ((with_reducible apply TX.cond_true); (focus rfl); (focus (first | rfl | (simp only [z1, Bool.not_true, Bool.not_false, h4]; done)))) | ((with_reducible apply TX.cond_false); (focus rfl); (focus (first | rfl | (simp only [z1, Bool.not_true, Bool.not_false, h4]; done)))) | fail)
      obtain ⟨⟨v11, v12⟩, h5, hr⟩ := Option.bind_eq_some_iff.1 hr
      try dsimp only at hr
      apply TO.cal (by first | rfl | (simp only [twant, z1, List.getElem?_toArray, Option.bind_some, h4]; done)) rfl goFn129 (filter_wide_over_spec h5) rfl rfl rfl
      (repeat (focus (show _ = _; first | exact k1 rfl | exact k2 rfl | (simp only [zz, ty_filter_gain_inParts, Nat.reduceAdd, Nat.reduceMul, Nat.reduceLeDiff, shift, kill, killB, frz, frzB, view, tml, tmlc, List.length_set, h4] <;> exact rfl) | exact rfl)))
      with_reducible apply TO.here
      repeat (first | with_reducible refine mv ?_ | with_reducible refine m12 rfl ?_ | with_reducible refine TO.nil ?_ | ((with_reducible first | apply TO.mv | apply TO.ext | apply TO.asg); (repeat (focus (show _ = _; first | exact k1 rfl | exact k2 rfl | (simp only [zz, ty_filter_gain_inParts, Nat.reduceAdd, Nat.reduceMul, Nat.reduceLeDiff, h4] <;> exact rfl) | exact rfl))); (with_reducible refine TO.here ?_)) | ((with_reducible apply TX.region); (focus (simp only [List.toList_toArray] <;> exact rfl)); (focus rfl); (try dsimp only)) | fail)
      cases hr
      refine ⟨.inr rfl, _, (by simp only [zy, ty_filter_gain_inParts, tresAll, tres, tload, rowOf, partT, h4]; exact rfl), ?_⟩
      exact Wk.ren [] rfl .nil (by (repeat (first | exact RNs.nil | refine RNs.cons .junk ?_ | refine RNs.cons (.keep rfl rfl) ?_ | refine RNs.cons (.lsl rfl rfl) ?_ | refine RNs.cons (.lsl rfl (by simp only [List.length_set])) ?_ | refine RNs.cons (.lptr rfl) ?_ | refine RNs.cons (.nil rfl) ?_ | refine RNs.cons .nl ?_ | refine RNs.cons (.keep (by simp only [h4]) rfl) ?_ | refine RNs.cons (.tuple' ?_) ?_ | refine RNs.cons (.agg' ?_) ?_)))
  rfl

end Go.Rex

namespace Go.Rex
open Go.Proofs
open Go Go.Rex Go.RowKit
set_option maxRecDepth 100000
theorem filter_floor_spec {v1 : Int} {v2 : Int} {v3 : Int} (hr : filter_floor v1 v2 = some (v3)) : Spec (lim Try.prog) 115 [.v (.int .i64 v1), .v (.int .i64 v2)] ⟨[.v (.int .i64 v3)], []⟩ := by
  unfold filter_floor at hr
  apply Spec.fn Try.func115 rfl
  focus (simp [Try.f115] <;> exact rfl)
  focus
    repeat (first | with_reducible refine mv ?_ | with_reducible refine m12 rfl ?_ | with_reducible refine TO.nil ?_ | ((with_reducible first | apply TO.asg | apply TO.mv); (repeat (focus (show _ = _; first | exact k1 rfl | exact k2 rfl | (simp only [zz, Nat.reduceAdd, Nat.reduceMul, Nat.reduceLeDiff] <;> exact rfl) | exact rfl))); (with_reducible refine TO.here ?_)) | ((with_reducible apply TX.region); (focus (simp only [List.toList_toArray] <;> exact rfl)); (focus rfl); (try dsimp only)) | fail)
    by_cases h1 : v2 = 0
    · rw [if_pos h1] at hr
      cases hr
    · rw [if_neg h1] at hr
      repeat (first | with_reducible refine mv ?_ | with_reducible refine m12 rfl ?_ | with_reducible refine TO.nil ?_ | ((with_reducible first | apply TO.bin | apply TO.mv | apply TO.asg); (repeat (focus (show _ = _; first | exact k1 rfl | exact k2 rfl | (simp only [zz, Nat.reduceAdd, Nat.reduceMul, Nat.reduceLeDiff, h1] <;> exact rfl) | exact rfl))); (with_reducible refine TO.here ?_)) | ((with_reducible apply TX.region); (focus (simp only [List.toList_toArray] <;> exact rfl)); (focus rfl); (try dsimp only)) | fail)
      cases hr
      refine ⟨.inr rfl, _, (by simp only [zy, tresAll, tres, tload, rowOf, partT, h1]; exact rfl), ?_⟩
      exact wr [] rfl .nil
  rfl

end Go.Rex

namespace Go.Rex
open Go.Proofs
open Go Go.Rex Go.RowKit
set_option maxRecDepth 100000
theorem filter_ceiling_spec {v1 : Int} {v2 : Int} {v3 : Int} (hr : filter_ceiling v1 v2 = some (v3)) : Spec (lim Try.prog) 125 [.v (.int .i64 v1), .v (.int .i64 v2)] ⟨[.v (.int .i64 v3)], []⟩ := by
  unfold filter_ceiling at hr
  apply Spec.fn Try.func125 rfl
  focus (simp [Try.f125] <;> exact rfl)
  focus
    repeat (first | with_reducible refine mv ?_ | with_reducible refine m12 rfl ?_ | with_reducible refine TO.nil ?_ | ((with_reducible first | apply TO.asg | apply TO.mv); (repeat (focus (show _ = _; first | exact k1 rfl | exact k2 rfl | (simp only [zz, Nat.reduceAdd, Nat.reduceMul, Nat.reduceLeDiff] <;> exact rfl) | exact rfl))); (with_reducible refine TO.here ?_)) | ((with_reducible apply TX.region); (focus (simp only [List.toList_toArray] <;> exact rfl)); (focus rfl); (try dsimp only)) | fail)
    apply TO.pop1 (by first | rfl | (simp only [twant, z1, List.getElem?_toArray, Option.bind_some]; done)) (pop_neg rfl)
    (repeat (focus (show _ = _; first | exact k1 rfl | exact k2 rfl | (simp only [zz, Nat.reduceAdd, Nat.reduceMul, Nat.reduceLeDiff] <;> exact rfl) | exact rfl)))
    with_reducible apply TO.here
    repeat (first | with_reducible refine mv ?_ | with_reducible refine m12 rfl ?_ | with_reducible refine TO.nil ?_ | ((with_reducible first | apply TO.mv); (repeat (focus (show _ = _; first | exact k1 rfl | exact k2 rfl | (simp only [zz, Nat.reduceAdd, Nat.reduceMul, Nat.reduceLeDiff] <;> exact rfl) | exact rfl))); (with_reducible refine TO.here ?_)) | ((with_reducible apply TX.region); (focus (simp only [List.toList_toArray] <;> exact rfl)); (focus rfl); (try dsimp only)) | fail)
    obtain ⟨v4, h1, hr⟩ := Option.bind_eq_some_iff.1 hr
    try dsimp only at hr
    apply TO.cal (by first | rfl | (simp only [twant, z1, List.getElem?_toArray, Option.bind_some]; done)) rfl goFn115 (filter_floor_spec h1) rfl rfl rfl
    (repeat (focus (show _ = _; first | exact k1 rfl | exact k2 rfl | (simp only [zz, Nat.reduceAdd, Nat.reduceMul, Nat.reduceLeDiff, shift, kill, killB, frz, frzB, view, tml, tmlc, List.length_set] <;> exact rfl) | exact rfl)))
    with_reducible apply TO.here
    repeat (first | with_reducible refine mv ?_ | with_reducible refine m12 rfl ?_ | with_reducible refine TO.nil ?_ | ((with_reducible apply TX.region); (focus (simp only [List.toList_toArray] <;> exact rfl)); (focus rfl); (try dsimp only)) | fail)
    apply TO.pop1 (by first | rfl | (simp only [twant, z1, List.getElem?_toArray, Option.bind_some]; done)) (pop_neg rfl)
    (repeat (focus (show _ = _; first | exact k1 rfl | exact k2 rfl | (simp only [zz, Nat.reduceAdd, Nat.reduceMul, Nat.reduceLeDiff] <;> exact rfl) | exact rfl)))
    with_reducible apply TO.here
    repeat (first | with_reducible refine mv ?_ | with_reducible refine m12 rfl ?_ | with_reducible refine TO.nil ?_ | ((with_reducible first | apply TO.asg); (repeat (focus (show _ = _; first | exact k1 rfl | exact k2 rfl | (simp only [zz, Nat.reduceAdd, Nat.reduceMul, Nat.reduceLeDiff] <;> exact rfl) | exact rfl))); (with_reducible refine TO.here ?_)) | ((with_reducible apply TX.region); (focus (simp only [List.toList_toArray] <;> exact rfl)); (focus rfl); (try dsimp only)) | fail)
    cases hr
    refine ⟨.inr rfl, _, (by simp only [zy, tresAll, tres, tload, rowOf, partT]; exact rfl), ?_⟩
    exact wr [] rfl .nil
  rfl

end Go.Rex

namespace Go.Rex
open Go.Proofs
open Go Go.Rex Go.RowKit
set_option maxRecDepth 100000
def ty_filter_gain_times := an @ag126 <| an @ag169 <| an @ag3 <| an @cs126 <| an @cs169 <| an @cs3 <| an @fd126_0 <| an @fd126_1 <| an @ok126 <| an @ok169 <| an @ok3 <| an @st126 <| @zc126
theorem filter_gain_times_spec {v1 : Int} {v2 : Int} {v3 : Int} {v4 : Int} {v5 : Int} {v6 : Int} {v7 : Int} (hr : filter_gain_times v1 v2 v3 v4 = some (v5, v6, v7)) : Spec (lim Try.prog) 109 [.agg [.v (.int .i64 v1), .v (.int .i64 v2)], .agg [.v (.int .i64 v3), .v (.int .i64 v4)]] ⟨[.tuple [.agg [.v (.int .i64 v5), .v (.int .i64 v6)], .v (.int .i64 v7)]], []⟩ := by
  unfold filter_gain_times at hr
  apply Spec.fn Try.func109 rfl
  focus (simp [Try.f109] <;> exact rfl)
  focus
    repeat (first | with_reducible refine mv ?_ | with_reducible refine m12 rfl ?_ | with_reducible refine TO.nil ?_ | ((with_reducible first | apply TO.bx (dst := some 3) | apply TO.bf | apply TO.al | apply TO.asg | apply TO.ld); (repeat (focus (show _ = _; first | exact k1 rfl | exact k2 rfl | (simp only [zz, ty_filter_gain_times, Nat.reduceAdd, Nat.reduceMul, Nat.reduceLeDiff, tload, rowOf, partT, List.getElem?_map] <;> exact rfl) | exact rfl))); (with_reducible refine TO.here ?_)) | ((with_reducible apply TX.region); (focus (simp only [List.toList_toArray] <;> exact rfl)); (focus rfl); (try dsimp only)) | fail)
    obtain ⟨⟨v8, v9, v10⟩, h1, hr⟩ := Option.bind_eq_some_iff.1 hr
    try dsimp only at hr
    apply TO.cal (by first | rfl | (simp only [twant, z1, List.getElem?_toArray, Option.bind_some]; done)) rfl goFn124 (filter_gain_inParts_spec h1) rfl rfl rfl
    (repeat (focus (show _ = _; first | exact k1 rfl | exact k2 rfl | (simp only [zz, ty_filter_gain_times, Nat.reduceAdd, Nat.reduceMul, Nat.reduceLeDiff, shift, kill, killB, frz, frzB, view, tml, tmlc, List.length_set] <;> exact rfl) | exact rfl)))
    with_reducible apply TO.here
    repeat (first | with_reducible refine mv ?_ | with_reducible refine m12 rfl ?_ | with_reducible refine TO.nil ?_ | ((with_reducible first | apply TO.mv | apply TO.ext | apply TO.asg | apply TO.bin); (repeat (focus (show _ = _; first | exact k1 rfl | exact k2 rfl | (simp only [zz, ty_filter_gain_times, Nat.reduceAdd, Nat.reduceMul, Nat.reduceLeDiff] <;> exact rfl) | exact rfl))); (with_reducible refine TO.here ?_)) | ((with_reducible apply TX.region); (focus (simp only [List.toList_toArray] <;> exact rfl)); (focus rfl); (try dsimp only)) | ((with_reducible apply TX.cond_true); (focus rfl); (focus (first | rfl | (simp only [z1, Bool.not_true, Bool.not_false]; done)))) | ((with_reducible apply TX.cond_false); (focus rfl); (focus (first | rfl | (simp only [z1, Bool.not_true, Bool.not_false]; done)))) | fail)
    rcases Bool.eq_false_or_eq_true ((decide (v10 ≠ 0))) with h2 | h2
    · rw [if_pos h2] at hr
      repeat (first | with_reducible refine mv ?_ | with_reducible refine m12 rfl ?_ | with_reducible refine TO.nil ?_ | ((with_reducible first | apply TO.bld | apply TO.mv | apply TO.sv | apply TO.asg); (repeat (focus (show _ = _; first | exact k1 rfl | exact k2 rfl | (simp only [zz, ty_filter_gain_times, Nat.reduceAdd, Nat.reduceMul, Nat.reduceLeDiff, tbuild, tfill, h2] <;> exact rfl) | exact rfl))); (with_reducible refine TO.here ?_)) | ((with_reducible apply TX.region); (focus (simp only [List.toList_toArray] <;> exact rfl)); (focus rfl); (try dsimp only)) | ((with_reducible apply TX.cond_true); (focus rfl); (focus (first | rfl | (simp only [z1, Bool.not_true, Bool.not_false, h2]; done)))) | ((with_reducible apply TX.cond_false); (focus rfl); (focus (first | rfl | (simp only [z1, Bool.not_true, Bool.not_false, h2]; done)))) | fail)
      cases hr
      refine ⟨.inr rfl, _, (by simp only [zy, ty_filter_gain_times, tresAll, tres, tload, rowOf, partT, h2]; exact rfl), ?_⟩
      exact Wk.ren [] rfl .nil (by (repeat (first | exact RNs.nil | refine RNs.cons .junk ?_ | refine RNs.cons (.keep rfl rfl) ?_ | refine RNs.cons (.lsl rfl rfl) ?_ | refine RNs.cons (.lsl rfl (by simp only [List.length_set])) ?_ | refine RNs.cons (.lptr rfl) ?_ | refine RNs.cons (.nil rfl) ?_ | refine RNs.cons .nl ?_ | refine RNs.cons (.keep (by simp only [h2]) rfl) ?_ | refine RNs.cons (.tuple' ?_) ?_ | refine RNs.cons (.agg' ?_) ?_)))
    · rw [if_neg (by rw [h2]; exact Bool.false_ne_true)] at hr
      repeat (first | with_reducible refine mv ?_ | with_reducible refine m12 rfl ?_ | with_reducible refine TO.nil ?_ | ((with_reducible first | apply TO.fa | apply TO.ld | apply TO.mv | apply TO.bin); (repeat (focus (show _ = _; first | exact k1 rfl | exact k2 rfl | (simp only [zz, ty_filter_gain_times, Nat.reduceAdd, Nat.reduceMul, Nat.reduceLeDiff, tfieldAddr, tload, rowOf, partT, List.getElem?_map, h2] <;> exact rfl) | exact rfl))); (with_reducible refine TO.here ?_)) | ((with_reducible apply TX.region); (focus (simp only [List.toList_toArray] <;> exact rfl)); (focus rfl); (try dsimp only)) | ((with_reducible apply TX.cond_true); (focus rfl); (focus (first | rfl | (simp only [z1, Bool.not_true, Bool.not_false, h2]; done)))) | ((with_reducible apply TX.cond_false); (focus rfl); (focus (first | rfl | (simp only [z1, Bool.not_true, Bool.not_false, h2]; done)))) | fail)
      obtain ⟨v11, h3, hr⟩ := Option.bind_eq_some_iff.1 hr
      try dsimp only at hr
      apply TO.cal (by first | rfl | (simp only [twant, z1, List.getElem?_toArray, Option.bind_some, h2]; done)) rfl goFn115 (filter_floor_spec h3) rfl rfl rfl
      (repeat (focus (show _ = _; first | exact k1 rfl | exact k2 rfl | (simp only [zz, ty_filter_gain_times, Nat.reduceAdd, Nat.reduceMul, Nat.reduceLeDiff, shift, kill, killB, frz, frzB, view, tml, tmlc, List.length_set, h2] <;> exact rfl) | exact rfl)))
      with_reducible apply TO.here
      repeat (first | with_reducible refine mv ?_ | with_reducible refine m12 rfl ?_ | with_reducible refine TO.nil ?_ | ((with_reducible first | apply TO.fa | apply TO.sv | apply TO.ld | apply TO.mv | apply TO.bin); (repeat (focus (show _ = _; first | exact k1 rfl | exact k2 rfl | (simp only [zz, ty_filter_gain_times, Nat.reduceAdd, Nat.reduceMul, Nat.reduceLeDiff, tfieldAddr, tload, rowOf, partT, List.getElem?_map, h2] <;> exact rfl) | exact rfl))); (with_reducible refine TO.here ?_)) | ((with_reducible apply TX.region); (focus (simp only [List.toList_toArray] <;> exact rfl)); (focus rfl); (try dsimp only)) | fail)
      obtain ⟨v12, h4, hr⟩ := Option.bind_eq_some_iff.1 hr
      try dsimp only at hr
      apply TO.cal (by first | rfl | (simp only [twant, z1, List.getElem?_toArray, Option.bind_some, h2]; done)) rfl goFn125 (filter_ceiling_spec h4) rfl rfl rfl
      (repeat (focus (show _ = _; first | exact k1 rfl | exact k2 rfl | (simp only [zz, ty_filter_gain_times, Nat.reduceAdd, Nat.reduceMul, Nat.reduceLeDiff, shift, kill, killB, frz, frzB, view, tml, tmlc, List.length_set, h2] <;> exact rfl) | exact rfl)))
      with_reducible apply TO.here
      repeat (first | with_reducible refine mv ?_ | with_reducible refine m12 rfl ?_ | with_reducible refine TO.nil ?_ | ((with_reducible first | apply TO.fa | apply TO.sv); (repeat (focus (show _ = _; first | exact k1 rfl | exact k2 rfl | (simp only [zz, ty_filter_gain_times, Nat.reduceAdd, Nat.reduceMul, Nat.reduceLeDiff, tfieldAddr, h2] <;> exact rfl) | exact rfl))); (with_reducible refine TO.here ?_)) | ((with_reducible apply TX.region); (focus (simp only [List.toList_toArray] <;> exact rfl)); (focus rfl); (try dsimp only)) | with_reducible refine TD.nil ?_ | ((with_reducible first | apply TD.ld | apply TD.ldw | apply TD.fa | apply TD.bin); (repeat (focus (show _ = _; first | exact k1 rfl | exact k2 rfl | (simp only [zz, ty_filter_gain_times, Nat.reduceAdd, Nat.reduceMul, Nat.reduceLeDiff, tload, rowOf, partT, List.getElem?_map, tfieldAddr, h2] <;> exact rfl) | exact rfl))); (with_reducible refine TD.here ?_)) | ((with_reducible apply TX.drawn); (focus decide +kernel); (focus (simp only [List.toList_toArray] <;> exact rfl)); (focus exact rfl); (try dsimp only)) | fail)
      obtain ⟨v13, h5, hr⟩ := Option.bind_eq_some_iff.1 hr
      try dsimp only at hr
      first | apply TD.cal (by first | rfl | (simp only [twant, z1, List.getElem?_toArray, Option.bind_some, h2]; done)) rfl goFn75 (filter_refuse_spec h5) rfl rfl rfl | apply TD.calw (by first | rfl | (simp only [twant, z1, List.getElem?_toArray, Option.bind_some, h2]; done)) rfl goFn75 (filter_refuse_spec h5) rfl rfl rfl rfl
      (repeat (focus (show _ = _; first | exact k1 rfl | exact k2 rfl | (simp only [zz, ty_filter_gain_times, Nat.reduceAdd, Nat.reduceMul, Nat.reduceLeDiff, shift, kill, killB, frz, frzB, view, tml, tmlc, List.length_set, h2] <;> exact rfl) | exact rfl)))
      with_reducible apply TD.here
      repeat (first | with_reducible refine mv ?_ | with_reducible refine m12 rfl ?_ | with_reducible refine TD.nil ?_ | ((with_reducible first | apply TD.sv | apply TD.asg); (repeat (focus (show _ = _; first | exact k1 rfl | exact k2 rfl | (simp only [zz, ty_filter_gain_times, Nat.reduceAdd, Nat.reduceMul, Nat.reduceLeDiff, h2] <;> exact rfl) | exact rfl))); (with_reducible refine TD.here ?_)) | ((with_reducible apply TX.drawn); (focus decide +kernel); (focus (simp only [List.toList_toArray] <;> exact rfl)); (focus exact rfl); (try dsimp only)) | fail)
      cases hr
      refine ⟨.inr rfl, _, (by simp only [zy, ty_filter_gain_times, tresAll, tres, tload, rowOf, partT, h2]; exact rfl), ?_⟩
      exact Wk.ren [] rfl .nil (by (repeat (first | exact RNs.nil | refine RNs.cons .junk ?_ | refine RNs.cons (.keep rfl rfl) ?_ | refine RNs.cons (.lsl rfl rfl) ?_ | refine RNs.cons (.lsl rfl (by simp only [List.length_set])) ?_ | refine RNs.cons (.lptr rfl) ?_ | refine RNs.cons (.nil rfl) ?_ | refine RNs.cons .nl ?_ | refine RNs.cons (.keep (by simp only [h2]) rfl) ?_ | refine RNs.cons (.tuple' ?_) ?_ | refine RNs.cons (.agg' ?_) ?_)))
  rfl

end Go.Rex
