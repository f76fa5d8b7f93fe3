/- Proofs that the program's functions do what these plain functions say. -/
import Derived.Test.YtaaghggojhbpiaaGB
import Derived.Test.YtaaghggojhbpiaaS
set_option linter.unusedSimpArgs false
set_option linter.unusedVariables false
set_option linter.defProp false
namespace Go.Rex
open Go.Proofs
open Go Go.Rex Go.RowKit
set_option maxRecDepth 100000
def ty_math_bits_Len64 := an @un3 <| an @un5 <| an @un93 <| an @us9 <| an @wi64_0a16 <| an @wi64_0a8 <| an @wi64_16a8 <| an @wi64_32a16 <| an @wi64_32a8 <| @wi64_48a8
theorem math_bits_Len64_spec {v1 : Int} {v2 : Int} (hr : math_bits_Len64 v1 = some (v2)) : Spec (lim Try.prog) 57 [.v (.int .u64 v1)] ⟨[.v (.int .i64 v2)], []⟩ := by
  unfold math_bits_Len64 at hr
  apply Spec.fn Try.func57 rfl
  focus (simp [Try.f57] <;> exact rfl)
  focus
    repeat (first | with_reducible refine mv ?_ | with_reducible refine m12 rfl ?_ | with_reducible refine TO.nil ?_ | ((with_reducible first | apply TO.asg | apply TO.mv | apply TO.bin); (repeat (focus (show _ = _; first | exact k1 rfl | exact k2 rfl | (simp only [zz, ty_math_bits_Len64, Nat.reduceAdd, Nat.reduceMul, Nat.reduceLeDiff] <;> exact rfl) | exact rfl))); (with_reducible refine TO.here ?_)) | ((with_reducible apply TX.region); (focus (simp only [List.toList_toArray] <;> exact rfl)); (focus rfl); (try dsimp only)) | ((with_reducible apply TX.cond_true); (focus rfl); (focus (first | rfl | (simp only [z1, Bool.not_true, Bool.not_false]; done)))) | ((with_reducible apply TX.cond_false); (focus rfl); (focus (first | rfl | (simp only [z1, Bool.not_true, Bool.not_false]; done)))) | fail)
    rcases Bool.eq_false_or_eq_true ((decide (v1 ≥ 4294967296))) with h1 | h1
    · rw [if_pos h1] at hr
      repeat (first | with_reducible refine mv ?_ | with_reducible refine m12 rfl ?_ | with_reducible refine TO.nil ?_ | ((with_reducible first | apply TO.mv); (repeat (focus (show _ = _; first | exact k1 rfl | exact k2 rfl | (simp only [zz, ty_math_bits_Len64, Nat.reduceAdd, Nat.reduceMul, Nat.reduceLeDiff, h1] <;> exact rfl) | exact rfl))); (with_reducible refine TO.here ?_)) | ((with_reducible apply TX.region); (focus (simp only [List.toList_toArray] <;> exact rfl)); (focus rfl); (try dsimp only)) | ((with_reducible apply TX.cond_true); (focus rfl); (focus (first | rfl | (simp only [z1, Bool.not_true, Bool.not_false, h1]; done)))) | ((with_reducible apply TX.cond_false); (focus rfl); (focus (first | rfl | (simp only [z1, Bool.not_true, Bool.not_false, h1]; done)))) | fail)
      obtain ⟨v3, h2, hr⟩ := Option.bind_eq_some_iff.1 hr
      try dsimp only at hr
      apply TO.pop1 (by first | rfl | (simp only [twant, z1, List.getElem?_toArray, Option.bind_some, h1]; done)) (pop_shift rfl rfl (by decide) (h2))
      (repeat (focus (show _ = _; first | exact k1 rfl | exact k2 rfl | (simp only [zz, ty_math_bits_Len64, Nat.reduceAdd, Nat.reduceMul, Nat.reduceLeDiff, h1] <;> exact rfl) | exact rfl)))
      with_reducible apply TO.here
      repeat (first | with_reducible refine mv ?_ | with_reducible refine m12 rfl ?_ | with_reducible refine TO.nil ?_ | ((with_reducible first | apply TO.asg | apply TO.mv | apply TO.bin); (repeat (focus (show _ = _; first | exact k1 rfl | exact k2 rfl | (simp only [zz, ty_math_bits_Len64, Nat.reduceAdd, Nat.reduceMul, Nat.reduceLeDiff, h1] <;> exact rfl) | exact rfl))); (with_reducible refine TO.here ?_)) | ((with_reducible apply TX.region); (focus (simp only [List.toList_toArray] <;> exact rfl)); (focus rfl); (try dsimp only)) | ((with_reducible apply TX.cond_true); (focus rfl); (focus (first | rfl | (simp only [z1, Bool.not_true, Bool.not_false, h1]; done)))) | ((with_reducible apply TX.cond_false); (focus rfl); (focus (first | rfl | (simp only [z1, Bool.not_true, Bool.not_false, h1]; done)))) | fail)
      rcases Bool.eq_false_or_eq_true ((decide (v3 ≥ 65536))) with h3 | h3
      · rw [if_pos h3] at hr
        repeat (first | with_reducible refine mv ?_ | with_reducible refine m12 rfl ?_ | with_reducible refine TO.nil ?_ | ((with_reducible first | apply TO.mv); (repeat (focus (show _ = _; first | exact k1 rfl | exact k2 rfl | (simp only [zz, ty_math_bits_Len64, Nat.reduceAdd, Nat.reduceMul, Nat.reduceLeDiff, h1, h3] <;> exact rfl) | exact rfl))); (with_reducible refine TO.here ?_)) | ((with_reducible apply TX.region); (focus (simp only [List.toList_toArray] <;> exact rfl)); (focus rfl); (try dsimp only)) | ((with_reducible apply TX.cond_true); (focus rfl); (focus (first | rfl | (simp only [z1, Bool.not_true, Bool.not_false, h1, h3]; done)))) | ((with_reducible apply TX.cond_false); (focus rfl); (focus (first | rfl | (simp only [z1, Bool.not_true, Bool.not_false, h1, h3]; done)))) | fail)
        obtain ⟨v4, h4, hr⟩ := Option.bind_eq_some_iff.1 hr
        try dsimp only at hr
        apply TO.pop1 (by first | rfl | (simp only [twant, z1, List.getElem?_toArray, Option.bind_some, h1, h3]; done)) (pop_shift rfl rfl (by decide) (h4))
        (repeat (focus (show _ = _; first | exact k1 rfl | exact k2 rfl | (simp only [zz, ty_math_bits_Len64, Nat.reduceAdd, Nat.reduceMul, Nat.reduceLeDiff, h1, h3] <;> exact rfl) | exact rfl)))
        with_reducible apply TO.here
        repeat (first | with_reducible refine mv ?_ | with_reducible refine m12 rfl ?_ | with_reducible refine TO.nil ?_ | ((with_reducible first | apply TO.asg | apply TO.mv | apply TO.bin); (repeat (focus (show _ = _; first | exact k1 rfl | exact k2 rfl | (simp only [zz, ty_math_bits_Len64, Nat.reduceAdd, Nat.reduceMul, Nat.reduceLeDiff, h1, h3] <;> exact rfl) | exact rfl))); (with_reducible refine TO.here ?_)) | ((with_reducible apply TX.region); (focus (simp only [List.toList_toArray] <;> exact rfl)); (focus rfl); (try dsimp only)) | ((with_reducible apply TX.cond_true); (focus rfl); (focus (first | rfl | (simp only [z1, Bool.not_true, Bool.not_false, h1, h3]; done)))) | ((with_reducible apply TX.cond_false); (focus rfl); (focus (first | rfl | (simp only [z1, Bool.not_true, Bool.not_false, h1, h3]; done)))) | fail)
        rcases Bool.eq_false_or_eq_true ((decide (v4 ≥ 256))) with h5 | h5
        · rw [if_pos h5] at hr
          repeat (first | with_reducible refine mv ?_ | with_reducible refine m12 rfl ?_ | with_reducible refine TO.nil ?_ | ((with_reducible first | apply TO.mv); (repeat (focus (show _ = _; first | exact k1 rfl | exact k2 rfl | (simp only [zz, ty_math_bits_Len64, Nat.reduceAdd, Nat.reduceMul, Nat.reduceLeDiff, h1, h3, h5] <;> exact rfl) | exact rfl))); (with_reducible refine TO.here ?_)) | ((with_reducible apply TX.region); (focus (simp only [List.toList_toArray] <;> exact rfl)); (focus rfl); (try dsimp only)) | ((with_reducible apply TX.cond_true); (focus rfl); (focus (first | rfl | (simp only [z1, Bool.not_true, Bool.not_false, h1, h3, h5]; done)))) | ((with_reducible apply TX.cond_false); (focus rfl); (focus (first | rfl | (simp only [z1, Bool.not_true, Bool.not_false, h1, h3, h5]; done)))) | fail)
          obtain ⟨v5, h6, hr⟩ := Option.bind_eq_some_iff.1 hr
          try dsimp only at hr
          apply TO.pop1 (by first | rfl | (simp only [twant, z1, List.getElem?_toArray, Option.bind_some, h1, h3, h5]; done)) (pop_shift rfl rfl (by decide) (h6))
          (repeat (focus (show _ = _; first | exact k1 rfl | exact k2 rfl | (simp only [zz, ty_math_bits_Len64, Nat.reduceAdd, Nat.reduceMul, Nat.reduceLeDiff, h1, h3, h5] <;> exact rfl) | exact rfl)))
          with_reducible apply TO.here
          repeat (first | with_reducible refine mv ?_ | with_reducible refine m12 rfl ?_ | with_reducible refine TO.nil ?_ | ((with_reducible first | apply TO.asg | apply TO.mv | apply TO.bin); (repeat (focus (show _ = _; first | exact k1 rfl | exact k2 rfl | (simp only [zz, ty_math_bits_Len64, Nat.reduceAdd, Nat.reduceMul, Nat.reduceLeDiff, h1, h3, h5] <;> exact rfl) | exact rfl))); (with_reducible refine TO.here ?_)) | ((with_reducible apply TX.region); (focus (simp only [List.toList_toArray] <;> exact rfl)); (focus rfl); (try dsimp only)) | fail)
          apply TO.pop1 (by first | rfl | (simp only [twant, z1, List.getElem?_toArray, Option.bind_some, h1, h3, h5]; done)) (cvt_int_int un93 un5 rfl)
          (repeat (focus (show _ = _; first | exact k1 rfl | exact k2 rfl | (simp only [zz, ty_math_bits_Len64, Nat.reduceAdd, Nat.reduceMul, Nat.reduceLeDiff, h1, h3, h5] <;> exact rfl) | exact rfl)))
          with_reducible apply TO.here
          repeat (first | with_reducible refine mv ?_ | with_reducible refine m12 rfl ?_ | with_reducible refine TO.nil ?_ | ((with_reducible apply TX.region); (focus (simp only [List.toList_toArray] <;> exact rfl)); (focus rfl); (try dsimp only)) | fail)
          obtain ⟨v6, h7, hr⟩ := Option.bind_eq_some_iff.1 hr
          try dsimp only at hr
          apply TO.pop1 (by first | rfl | (simp only [twant, z1, List.getElem?_toArray, Option.bind_some, h1, h3, h5]; done)) (pop_strix rfl rfl us9 h7)
          (repeat (focus (show _ = _; first | exact k1 rfl | exact k2 rfl | (simp only [zz, ty_math_bits_Len64, Nat.reduceAdd, Nat.reduceMul, Nat.reduceLeDiff, h1, h3, h5] <;> exact rfl) | exact rfl)))
          with_reducible apply TO.here
          repeat (first | with_reducible refine mv ?_ | with_reducible refine m12 rfl ?_ | with_reducible refine TO.nil ?_ | ((with_reducible apply TX.region); (focus (simp only [List.toList_toArray] <;> exact rfl)); (focus rfl); (try dsimp only)) | fail)
          apply TO.pop1 (by first | rfl | (simp only [twant, z1, List.getElem?_toArray, Option.bind_some, h1, h3, h5]; done)) (cvt_int_int un5 un3 rfl)
          (repeat (focus (show _ = _; first | exact k1 rfl | exact k2 rfl | (simp only [zz, ty_math_bits_Len64, Nat.reduceAdd, Nat.reduceMul, Nat.reduceLeDiff, h1, h3, h5] <;> exact rfl) | exact rfl)))
          with_reducible apply TO.here
          repeat (first | with_reducible refine mv ?_ | with_reducible refine m12 rfl ?_ | with_reducible refine TO.nil ?_ | ((with_reducible first | apply TO.bin | apply TO.asg); (repeat (focus (show _ = _; first | exact k1 rfl | exact k2 rfl | (simp only [zz, ty_math_bits_Len64, Nat.reduceAdd, Nat.reduceMul, Nat.reduceLeDiff, h1, h3, h5] <;> exact rfl) | exact rfl))); (with_reducible refine TO.here ?_)) | ((with_reducible apply TX.region); (focus (simp only [List.toList_toArray] <;> exact rfl)); (focus rfl); (try dsimp only)) | fail)
          cases hr
          refine ⟨.inr rfl, _, (by simp only [zy, ty_math_bits_Len64, tresAll, tres, tload, rowOf, partT, h1, h3, h5]; exact rfl), ?_⟩
          exact Wk.ren [] rfl .nil (by (repeat (first | exact RNs.nil | refine RNs.cons .junk ?_ | refine RNs.cons (.keep rfl rfl) ?_ | refine RNs.cons (.lsl rfl rfl) ?_ | refine RNs.cons (.lsl rfl (by simp only [List.length_set])) ?_ | refine RNs.cons (.lptr rfl) ?_ | refine RNs.cons (.nil rfl) ?_ | refine RNs.cons .nl ?_ | refine RNs.cons (.keep (by simp only [h1, h3, h5]) rfl) ?_ | refine RNs.cons (.tuple' ?_) ?_ | refine RNs.cons (.agg' ?_) ?_)))
        · rw [if_neg (by rw [h5]; exact Bool.false_ne_true)] at hr
          repeat (first | with_reducible refine mv ?_ | with_reducible refine m12 rfl ?_ | with_reducible refine TO.nil ?_ | ((with_reducible first | apply TO.mv); (repeat (focus (show _ = _; first | exact k1 rfl | exact k2 rfl | (simp only [zz, ty_math_bits_Len64, Nat.reduceAdd, Nat.reduceMul, Nat.reduceLeDiff, h1, h3, h5] <;> exact rfl) | exact rfl))); (with_reducible refine TO.here ?_)) | ((with_reducible apply TX.region); (focus (simp only [List.toList_toArray] <;> exact rfl)); (focus rfl); (try dsimp only)) | ((with_reducible apply TX.cond_true); (focus rfl); (focus (first | rfl | (simp only [z1, Bool.not_true, Bool.not_false, h1, h3, h5]; done)))) | ((with_reducible apply TX.cond_false); (focus rfl); (focus (first | rfl | (simp only [z1, Bool.not_true, Bool.not_false, h1, h3, h5]; done)))) | fail)
          apply TO.pop1 (by first | rfl | (simp only [twant, z1, List.getElem?_toArray, Option.bind_some, h1, h3, h5]; done)) (cvt_int_int un93 un5 rfl)
          (repeat (focus (show _ = _; first | exact k1 rfl | exact k2 rfl | (simp only [zz, ty_math_bits_Len64, Nat.reduceAdd, Nat.reduceMul, Nat.reduceLeDiff, h1, h3, h5] <;> exact rfl) | exact rfl)))
          with_reducible apply TO.here
          repeat (first | with_reducible refine mv ?_ | with_reducible refine m12 rfl ?_ | with_reducible refine TO.nil ?_ | ((with_reducible apply TX.region); (focus (simp only [List.toList_toArray] <;> exact rfl)); (focus rfl); (try dsimp only)) | fail)
          obtain ⟨v7, h8, hr⟩ := Option.bind_eq_some_iff.1 hr
          try dsimp only at hr
          apply TO.pop1 (by first | rfl | (simp only [twant, z1, List.getElem?_toArray, Option.bind_some, h1, h3, h5]; done)) (pop_strix rfl rfl us9 h8)
          (repeat (focus (show _ = _; first | exact k1 rfl | exact k2 rfl | (simp only [zz, ty_math_bits_Len64, Nat.reduceAdd, Nat.reduceMul, Nat.reduceLeDiff, h1, h3, h5] <;> exact rfl) | exact rfl)))
          with_reducible apply TO.here
          repeat (first | with_reducible refine mv ?_ | with_reducible refine m12 rfl ?_ | with_reducible refine TO.nil ?_ | ((with_reducible apply TX.region); (focus (simp only [List.toList_toArray] <;> exact rfl)); (focus rfl); (try dsimp only)) | fail)
          apply TO.pop1 (by first | rfl | (simp only [twant, z1, List.getElem?_toArray, Option.bind_some, h1, h3, h5]; done)) (cvt_int_int un5 un3 rfl)
          (repeat (focus (show _ = _; first | exact k1 rfl | exact k2 rfl | (simp only [zz, ty_math_bits_Len64, Nat.reduceAdd, Nat.reduceMul, Nat.reduceLeDiff, h1, h3, h5] <;> exact rfl) | exact rfl)))
          with_reducible apply TO.here
          repeat (first | with_reducible refine mv ?_ | with_reducible refine m12 rfl ?_ | with_reducible refine TO.nil ?_ | ((with_reducible first | apply TO.bin | apply TO.asg); (repeat (focus (show _ = _; first | exact k1 rfl | exact k2 rfl | (simp only [zz, ty_math_bits_Len64, Nat.reduceAdd, Nat.reduceMul, Nat.reduceLeDiff, h1, h3, h5] <;> exact rfl) | exact rfl))); (with_reducible refine TO.here ?_)) | ((with_reducible apply TX.region); (focus (simp only [List.toList_toArray] <;> exact rfl)); (focus rfl); (try dsimp only)) | fail)
          cases hr
          refine ⟨.inr rfl, _, (by simp only [zy, ty_math_bits_Len64, tresAll, tres, tload, rowOf, partT, h1, h3, h5]; exact rfl), ?_⟩
          exact Wk.ren [] rfl .nil (by (repeat (first | exact RNs.nil | refine RNs.cons .junk ?_ | refine RNs.cons (.keep rfl rfl) ?_ | refine RNs.cons (.lsl rfl rfl) ?_ | refine RNs.cons (.lsl rfl (by simp only [List.length_set])) ?_ | refine RNs.cons (.lptr rfl) ?_ | refine RNs.cons (.nil rfl) ?_ | refine RNs.cons .nl ?_ | refine RNs.cons (.keep (by simp only [h1, h3, h5]) rfl) ?_ | refine RNs.cons (.tuple' ?_) ?_ | refine RNs.cons (.agg' ?_) ?_)))
      · rw [if_neg (by rw [h3]; exact Bool.false_ne_true)] at hr
        repeat (first | with_reducible refine mv ?_ | with_reducible refine m12 rfl ?_ | with_reducible refine TO.nil ?_ | ((with_reducible first | apply TO.mv | apply TO.bin); (repeat (focus (show _ = _; first | exact k1 rfl | exact k2 rfl | (simp only [zz, ty_math_bits_Len64, Nat.reduceAdd, Nat.reduceMul, Nat.reduceLeDiff, h1, h3] <;> exact rfl) | exact rfl))); (with_reducible refine TO.here ?_)) | ((with_reducible apply TX.region); (focus (simp only [List.toList_toArray] <;> exact rfl)); (focus rfl); (try dsimp only)) | ((with_reducible apply TX.cond_true); (focus rfl); (focus (first | rfl | (simp only [z1, Bool.not_true, Bool.not_false, h1, h3]; done)))) | ((with_reducible apply TX.cond_false); (focus rfl); (focus (first | rfl | (simp only [z1, Bool.not_true, Bool.not_false, h1, h3]; done)))) | fail)
        rcases Bool.eq_false_or_eq_true ((decide (v3 ≥ 256))) with h9 | h9
        · rw [if_pos h9] at hr
          repeat (first | with_reducible refine mv ?_ | with_reducible refine m12 rfl ?_ | with_reducible refine TO.nil ?_ | ((with_reducible first | apply TO.mv); (repeat (focus (show _ = _; first | exact k1 rfl | exact k2 rfl | (simp only [zz, ty_math_bits_Len64, Nat.reduceAdd, Nat.reduceMul, Nat.reduceLeDiff, h1, h3, h9] <;> exact rfl) | exact rfl))); (with_reducible refine TO.here ?_)) | ((with_reducible apply TX.region); (focus (simp only [List.toList_toArray] <;> exact rfl)); (focus rfl); (try dsimp only)) | ((with_reducible apply TX.cond_true); (focus rfl); (focus (first | rfl | (simp only [z1, Bool.not_true, Bool.not_false, h1, h3, h9]; done)))) | ((with_reducible apply TX.cond_false); (focus rfl); (focus (first | rfl | (simp only [z1, Bool.not_true, Bool.not_false, h1, h3, h9]; done)))) | fail)
          obtain ⟨v8, h10, hr⟩ := Option.bind_eq_some_iff.1 hr
          try dsimp only at hr
          apply TO.pop1 (by first | rfl | (simp only [twant, z1, List.getElem?_toArray, Option.bind_some, h1, h3, h9]; done)) (pop_shift rfl rfl (by decide) (h10))
          (repeat (focus (show _ = _; first | exact k1 rfl | exact k2 rfl | (simp only [zz, ty_math_bits_Len64, Nat.reduceAdd, Nat.reduceMul, Nat.reduceLeDiff, h1, h3, h9] <;> exact rfl) | exact rfl)))
          with_reducible apply TO.here
          repeat (first | with_reducible refine mv ?_ | with_reducible refine m12 rfl ?_ | with_reducible refine TO.nil ?_ | ((with_reducible first | apply TO.asg | apply TO.mv | apply TO.bin); (repeat (focus (show _ = _; first | exact k1 rfl | exact k2 rfl | (simp only [zz, ty_math_bits_Len64, Nat.reduceAdd, Nat.reduceMul, Nat.reduceLeDiff, h1, h3, h9] <;> exact rfl) | exact rfl))); (with_reducible refine TO.here ?_)) | ((with_reducible apply TX.region); (focus (simp only [List.toList_toArray] <;> exact rfl)); (focus rfl); (try dsimp only)) | fail)
          apply TO.pop1 (by first | rfl | (simp only [twant, z1, List.getElem?_toArray, Option.bind_some, h1, h3, h9]; done)) (cvt_int_int un93 un5 rfl)
          (repeat (focus (show _ = _; first | exact k1 rfl | exact k2 rfl | (simp only [zz, ty_math_bits_Len64, Nat.reduceAdd, Nat.reduceMul, Nat.reduceLeDiff, h1, h3, h9] <;> exact rfl) | exact rfl)))
          with_reducible apply TO.here
          repeat (first | with_reducible refine mv ?_ | with_reducible refine m12 rfl ?_ | with_reducible refine TO.nil ?_ | ((with_reducible apply TX.region); (focus (simp only [List.toList_toArray] <;> exact rfl)); (focus rfl); (try dsimp only)) | fail)
          obtain ⟨v9, h11, hr⟩ := Option.bind_eq_some_iff.1 hr
          try dsimp only at hr
          apply TO.pop1 (by first | rfl | (simp only [twant, z1, List.getElem?_toArray, Option.bind_some, h1, h3, h9]; done)) (pop_strix rfl rfl us9 h11)
          (repeat (focus (show _ = _; first | exact k1 rfl | exact k2 rfl | (simp only [zz, ty_math_bits_Len64, Nat.reduceAdd, Nat.reduceMul, Nat.reduceLeDiff, h1, h3, h9] <;> exact rfl) | exact rfl)))
          with_reducible apply TO.here
          repeat (first | with_reducible refine mv ?_ | with_reducible refine m12 rfl ?_ | with_reducible refine TO.nil ?_ | ((with_reducible apply TX.region); (focus (simp only [List.toList_toArray] <;> exact rfl)); (focus rfl); (try dsimp only)) | fail)
          apply TO.pop1 (by first | rfl | (simp only [twant, z1, List.getElem?_toArray, Option.bind_some, h1, h3, h9]; done)) (cvt_int_int un5 un3 rfl)
          (repeat (focus (show _ = _; first | exact k1 rfl | exact k2 rfl | (simp only [zz, ty_math_bits_Len64, Nat.reduceAdd, Nat.reduceMul, Nat.reduceLeDiff, h1, h3, h9] <;> exact rfl) | exact rfl)))
          with_reducible apply TO.here
          repeat (first | with_reducible refine mv ?_ | with_reducible refine m12 rfl ?_ | with_reducible refine TO.nil ?_ | ((with_reducible first | apply TO.bin | apply TO.asg); (repeat (focus (show _ = _; first | exact k1 rfl | exact k2 rfl | (simp only [zz, ty_math_bits_Len64, Nat.reduceAdd, Nat.reduceMul, Nat.reduceLeDiff, h1, h3, h9] <;> exact rfl) | exact rfl))); (with_reducible refine TO.here ?_)) | ((with_reducible apply TX.region); (focus (simp only [List.toList_toArray] <;> exact rfl)); (focus rfl); (try dsimp only)) | fail)
          cases hr
          refine ⟨.inr rfl, _, (by simp only [zy, ty_math_bits_Len64, tresAll, tres, tload, rowOf, partT, h1, h3, h9]; exact rfl), ?_⟩
          exact Wk.ren [] rfl .nil (by (repeat (first | exact RNs.nil | refine RNs.cons .junk ?_ | refine RNs.cons (.keep rfl rfl) ?_ | refine RNs.cons (.lsl rfl rfl) ?_ | refine RNs.cons (.lsl rfl (by simp only [List.length_set])) ?_ | refine RNs.cons (.lptr rfl) ?_ | refine RNs.cons (.nil rfl) ?_ | refine RNs.cons .nl ?_ | refine RNs.cons (.keep (by simp only [h1, h3, h9]) rfl) ?_ | refine RNs.cons (.tuple' ?_) ?_ | refine RNs.cons (.agg' ?_) ?_)))
        · rw [if_neg (by rw [h9]; exact Bool.false_ne_true)] at hr
          repeat (first | with_reducible refine mv ?_ | with_reducible refine m12 rfl ?_ | with_reducible refine TO.nil ?_ | ((with_reducible first | apply TO.mv); (repeat (focus (show _ = _; first | exact k1 rfl | exact k2 rfl | (simp only [zz, ty_math_bits_Len64, Nat.reduceAdd, Nat.reduceMul, Nat.reduceLeDiff, h1, h3, h9] <;> exact rfl) | exact rfl))); (with_reducible refine TO.here ?_)) | ((with_reducible apply TX.region); (focus (simp only [List.toList_toArray] <;> exact rfl)); (focus rfl); (try dsimp only)) | ((with_reducible apply TX.cond_true); (focus rfl); (focus (first | rfl | (simp only [z1, Bool.not_true, Bool.not_false, h1, h3, h9]; done)))) | ((with_reducible apply TX.cond_false); (focus rfl); (focus (first | rfl | (simp only [z1, Bool.not_true, Bool.not_false, h1, h3, h9]; done)))) | fail)
          apply TO.pop1 (by first | rfl | (simp only [twant, z1, List.getElem?_toArray, Option.bind_some, h1, h3, h9]; done)) (cvt_int_int un93 un5 rfl)
          (repeat (focus (show _ = _; first | exact k1 rfl | exact k2 rfl | (simp only [zz, ty_math_bits_Len64, Nat.reduceAdd, Nat.reduceMul, Nat.reduceLeDiff, h1, h3, h9] <;> exact rfl) | exact rfl)))
          with_reducible apply TO.here
          repeat (first | with_reducible refine mv ?_ | with_reducible refine m12 rfl ?_ | with_reducible refine TO.nil ?_ | ((with_reducible apply TX.region); (focus (simp only [List.toList_toArray] <;> exact rfl)); (focus rfl); (try dsimp only)) | fail)
          obtain ⟨v10, h12, hr⟩ := Option.bind_eq_some_iff.1 hr
          try dsimp only at hr
          apply TO.pop1 (by first | rfl | (simp only [twant, z1, List.getElem?_toArray, Option.bind_some, h1, h3, h9]; done)) (pop_strix rfl rfl us9 h12)
          (repeat (focus (show _ = _; first | exact k1 rfl | exact k2 rfl | (simp only [zz, ty_math_bits_Len64, Nat.reduceAdd, Nat.reduceMul, Nat.reduceLeDiff, h1, h3, h9] <;> exact rfl) | exact rfl)))
          with_reducible apply TO.here
          repeat (first | with_reducible refine mv ?_ | with_reducible refine m12 rfl ?_ | with_reducible refine TO.nil ?_ | ((with_reducible apply TX.region); (focus (simp only [List.toList_toArray] <;> exact rfl)); (focus rfl); (try dsimp only)) | fail)
          apply TO.pop1 (by first | rfl | (simp only [twant, z1, List.getElem?_toArray, Option.bind_some, h1, h3, h9]; done)) (cvt_int_int un5 un3 rfl)
          (repeat (focus (show _ = _; first | exact k1 rfl | exact k2 rfl | (simp only [zz, ty_math_bits_Len64, Nat.reduceAdd, Nat.reduceMul, Nat.reduceLeDiff, h1, h3, h9] <;> exact rfl) | exact rfl)))
          with_reducible apply TO.here
          repeat (first | with_reducible refine mv ?_ | with_reducible refine m12 rfl ?_ | with_reducible refine TO.nil ?_ | ((with_reducible first | apply TO.bin | apply TO.asg); (repeat (focus (show _ = _; first | exact k1 rfl | exact k2 rfl | (simp only [zz, ty_math_bits_Len64, Nat.reduceAdd, Nat.reduceMul, Nat.reduceLeDiff, h1, h3, h9] <;> exact rfl) | exact rfl))); (with_reducible refine TO.here ?_)) | ((with_reducible apply TX.region); (focus (simp only [List.toList_toArray] <;> exact rfl)); (focus rfl); (try dsimp only)) | fail)
          cases hr
          refine ⟨.inr rfl, _, (by simp only [zy, ty_math_bits_Len64, tresAll, tres, tload, rowOf, partT, h1, h3, h9]; exact rfl), ?_⟩
          exact Wk.ren [] rfl .nil (by (repeat (first | exact RNs.nil | refine RNs.cons .junk ?_ | refine RNs.cons (.keep rfl rfl) ?_ | refine RNs.cons (.lsl rfl rfl) ?_ | refine RNs.cons (.lsl rfl (by simp only [List.length_set])) ?_ | refine RNs.cons (.lptr rfl) ?_ | refine RNs.cons (.nil rfl) ?_ | refine RNs.cons .nl ?_ | refine RNs.cons (.keep (by simp only [h1, h3, h9]) rfl) ?_ | refine RNs.cons (.tuple' ?_) ?_ | refine RNs.cons (.agg' ?_) ?_)))
    · rw [if_neg (by rw [h1]; exact Bool.false_ne_true)] at hr
      repeat (first | with_reducible refine mv ?_ | with_reducible refine m12 rfl ?_ | with_reducible refine TO.nil ?_ | ((with_reducible first | apply TO.mv | apply TO.bin); (repeat (focus (show _ = _; first | exact k1 rfl | exact k2 rfl | (simp only [zz, ty_math_bits_Len64, Nat.reduceAdd, Nat.reduceMul, Nat.reduceLeDiff, h1] <;> exact rfl) | exact rfl))); (with_reducible refine TO.here ?_)) | ((with_reducible apply TX.region); (focus (simp only [List.toList_toArray] <;> exact rfl)); (focus rfl); (try dsimp only)) | ((with_reducible apply TX.cond_true); (focus rfl); (focus (first | rfl | (simp only [z1, Bool.not_true, Bool.not_false, h1]; done)))) | ((with_reducible apply TX.cond_false); (focus rfl); (focus (first | rfl | (simp only [z1, Bool.not_true, Bool.not_false, h1]; done)))) | fail)
      rcases Bool.eq_false_or_eq_true ((decide (v1 ≥ 65536))) with h13 | h13
      · rw [if_pos h13] at hr
        repeat (first | with_reducible refine mv ?_ | with_reducible refine m12 rfl ?_ | with_reducible refine TO.nil ?_ | ((with_reducible first | apply TO.mv); (repeat (focus (show _ = _; first | exact k1 rfl | exact k2 rfl | (simp only [zz, ty_math_bits_Len64, Nat.reduceAdd, Nat.reduceMul, Nat.reduceLeDiff, h1, h13] <;> exact rfl) | exact rfl))); (with_reducible refine TO.here ?_)) | ((with_reducible apply TX.region); (focus (simp only [List.toList_toArray] <;> exact rfl)); (focus rfl); (try dsimp only)) | ((with_reducible apply TX.cond_true); (focus rfl); (focus (first | rfl | (simp only [z1, Bool.not_true, Bool.not_false, h1, h13]; done)))) | ((with_reducible apply TX.cond_false); (focus rfl); (focus (first | rfl | (simp only [z1, Bool.not_true, Bool.not_false, h1, h13]; done)))) | fail)
        obtain ⟨v11, h14, hr⟩ := Option.bind_eq_some_iff.1 hr
        try dsimp only at hr
        apply TO.pop1 (by first | rfl | (simp only [twant, z1, List.getElem?_toArray, Option.bind_some, h1, h13]; done)) (pop_shift rfl rfl (by decide) (h14))
        (repeat (focus (show _ = _; first | exact k1 rfl | exact k2 rfl | (simp only [zz, ty_math_bits_Len64, Nat.reduceAdd, Nat.reduceMul, Nat.reduceLeDiff, h1, h13] <;> exact rfl) | exact rfl)))
        with_reducible apply TO.here
        repeat (first | with_reducible refine mv ?_ | with_reducible refine m12 rfl ?_ | with_reducible refine TO.nil ?_ | ((with_reducible first | apply TO.asg | apply TO.mv | apply TO.bin); (repeat (focus (show _ = _; first | exact k1 rfl | exact k2 rfl | (simp only [zz, ty_math_bits_Len64, Nat.reduceAdd, Nat.reduceMul, Nat.reduceLeDiff, h1, h13] <;> exact rfl) | exact rfl))); (with_reducible refine TO.here ?_)) | ((with_reducible apply TX.region); (focus (simp only [List.toList_toArray] <;> exact rfl)); (focus rfl); (try dsimp only)) | ((with_reducible apply TX.cond_true); (focus rfl); (focus (first | rfl | (simp only [z1, Bool.not_true, Bool.not_false, h1, h13]; done)))) | ((with_reducible apply TX.cond_false); (focus rfl); (focus (first | rfl | (simp only [z1, Bool.not_true, Bool.not_false, h1, h13]; done)))) | fail)
        rcases Bool.eq_false_or_eq_true ((decide (v11 ≥ 256))) with h15 | h15
        · rw [if_pos h15] at hr
          repeat (first | with_reducible refine mv ?_ | with_reducible refine m12 rfl ?_ | with_reducible refine TO.nil ?_ | ((with_reducible first | apply TO.mv); (repeat (focus (show _ = _; first | exact k1 rfl | exact k2 rfl | (simp only [zz, ty_math_bits_Len64, Nat.reduceAdd, Nat.reduceMul, Nat.reduceLeDiff, h1, h13, h15] <;> exact rfl) | exact rfl))); (with_reducible refine TO.here ?_)) | ((with_reducible apply TX.region); (focus (simp only [List.toList_toArray] <;> exact rfl)); (focus rfl); (try dsimp only)) | ((with_reducible apply TX.cond_true); (focus rfl); (focus (first | rfl | (simp only [z1, Bool.not_true, Bool.not_false, h1, h13, h15]; done)))) | ((with_reducible apply TX.cond_false); (focus rfl); (focus (first | rfl | (simp only [z1, Bool.not_true, Bool.not_false, h1, h13, h15]; done)))) | fail)
          obtain ⟨v12, h16, hr⟩ := Option.bind_eq_some_iff.1 hr
          try dsimp only at hr
          apply TO.pop1 (by first | rfl | (simp only [twant, z1, List.getElem?_toArray, Option.bind_some, h1, h13, h15]; done)) (pop_shift rfl rfl (by decide) (h16))
          (repeat (focus (show _ = _; first | exact k1 rfl | exact k2 rfl | (simp only [zz, ty_math_bits_Len64, Nat.reduceAdd, Nat.reduceMul, Nat.reduceLeDiff, h1, h13, h15] <;> exact rfl) | exact rfl)))
          with_reducible apply TO.here
          repeat (first | with_reducible refine mv ?_ | with_reducible refine m12 rfl ?_ | with_reducible refine TO.nil ?_ | ((with_reducible first | apply TO.asg | apply TO.mv | apply TO.bin); (repeat (focus (show _ = _; first | exact k1 rfl | exact k2 rfl | (simp only [zz, ty_math_bits_Len64, Nat.reduceAdd, Nat.reduceMul, Nat.reduceLeDiff, h1, h13, h15] <;> exact rfl) | exact rfl))); (with_reducible refine TO.here ?_)) | ((with_reducible apply TX.region); (focus (simp only [List.toList_toArray] <;> exact rfl)); (focus rfl); (try dsimp only)) | fail)
          apply TO.pop1 (by first | rfl | (simp only [twant, z1, List.getElem?_toArray, Option.bind_some, h1, h13, h15]; done)) (cvt_int_int un93 un5 rfl)
          (repeat (focus (show _ = _; first | exact k1 rfl | exact k2 rfl | (simp only [zz, ty_math_bits_Len64, Nat.reduceAdd, Nat.reduceMul, Nat.reduceLeDiff, h1, h13, h15] <;> exact rfl) | exact rfl)))
          with_reducible apply TO.here
          repeat (first | with_reducible refine mv ?_ | with_reducible refine m12 rfl ?_ | with_reducible refine TO.nil ?_ | ((with_reducible apply TX.region); (focus (simp only [List.toList_toArray] <;> exact rfl)); (focus rfl); (try dsimp only)) | fail)
          obtain ⟨v13, h17, hr⟩ := Option.bind_eq_some_iff.1 hr
          try dsimp only at hr
          apply TO.pop1 (by first | rfl | (simp only [twant, z1, List.getElem?_toArray, Option.bind_some, h1, h13, h15]; done)) (pop_strix rfl rfl us9 h17)
          (repeat (focus (show _ = _; first | exact k1 rfl | exact k2 rfl | (simp only [zz, ty_math_bits_Len64, Nat.reduceAdd, Nat.reduceMul, Nat.reduceLeDiff, h1, h13, h15] <;> exact rfl) | exact rfl)))
          with_reducible apply TO.here
          repeat (first | with_reducible refine mv ?_ | with_reducible refine m12 rfl ?_ | with_reducible refine TO.nil ?_ | ((with_reducible apply TX.region); (focus (simp only [List.toList_toArray] <;> exact rfl)); (focus rfl); (try dsimp only)) | fail)
          apply TO.pop1 (by first | rfl | (simp only [twant, z1, List.getElem?_toArray, Option.bind_some, h1, h13, h15]; done)) (cvt_int_int un5 un3 rfl)
          (repeat (focus (show _ = _; first | exact k1 rfl | exact k2 rfl | (simp only [zz, ty_math_bits_Len64, Nat.reduceAdd, Nat.reduceMul, Nat.reduceLeDiff, h1, h13, h15] <;> exact rfl) | exact rfl)))
          with_reducible apply TO.here
          repeat (first | with_reducible refine mv ?_ | with_reducible refine m12 rfl ?_ | with_reducible refine TO.nil ?_ | ((with_reducible first | apply TO.bin | apply TO.asg); (repeat (focus (show _ = _; first | exact k1 rfl | exact k2 rfl | (simp only [zz, ty_math_bits_Len64, Nat.reduceAdd, Nat.reduceMul, Nat.reduceLeDiff, h1, h13, h15] <;> exact rfl) | exact rfl))); (with_reducible refine TO.here ?_)) | ((with_reducible apply TX.region); (focus (simp only [List.toList_toArray] <;> exact rfl)); (focus rfl); (try dsimp only)) | fail)
          cases hr
          refine ⟨.inr rfl, _, (by simp only [zy, ty_math_bits_Len64, tresAll, tres, tload, rowOf, partT, h1, h13, h15]; exact rfl), ?_⟩
          exact Wk.ren [] rfl .nil (by (repeat (first | exact RNs.nil | refine RNs.cons .junk ?_ | refine RNs.cons (.keep rfl rfl) ?_ | refine RNs.cons (.lsl rfl rfl) ?_ | refine RNs.cons (.lsl rfl (by simp only [List.length_set])) ?_ | refine RNs.cons (.lptr rfl) ?_ | refine RNs.cons (.nil rfl) ?_ | refine RNs.cons .nl ?_ | refine RNs.cons (.keep (by simp only [h1, h13, h15]) rfl) ?_ | refine RNs.cons (.tuple' ?_) ?_ | refine RNs.cons (.agg' ?_) ?_)))
        · rw [if_neg (by rw [h15]; exact Bool.false_ne_true)] at hr
          repeat (first | with_reducible refine mv ?_ | with_reducible refine m12 rfl ?_ | with_reducible refine TO.nil ?_ | ((with_reducible first | apply TO.mv); (repeat (focus (show _ = _; first | exact k1 rfl | exact k2 rfl | (simp only [zz, ty_math_bits_Len64, Nat.reduceAdd, Nat.reduceMul, Nat.reduceLeDiff, h1, h13, h15] <;> exact rfl) | exact rfl))); (with_reducible refine TO.here ?_)) | ((with_reducible apply TX.region); (focus (simp only [List.toList_toArray] <;> exact rfl)); (focus rfl); (try dsimp only)) | ((with_reducible apply TX.cond_true); (focus rfl); (focus (first | rfl | (simp only [z1, Bool.not_true, Bool.not_false, h1, h13, h15]; done)))) | ((with_reducible apply TX.cond_false); (focus rfl); (focus (first | rfl | (simp only [z1, Bool.not_true, Bool.not_false, h1, h13, h15]; done)))) | fail)
          apply TO.pop1 (by first | rfl | (simp only [twant, z1, List.getElem?_toArray, Option.bind_some, h1, h13, h15]; done)) (cvt_int_int un93 un5 rfl)
          (repeat (focus (show _ = _; first | exact k1 rfl | exact k2 rfl | (simp only [zz, ty_math_bits_Len64, Nat.reduceAdd, Nat.reduceMul, Nat.reduceLeDiff, h1, h13, h15] <;> exact rfl) | exact rfl)))
          with_reducible apply TO.here
          repeat (first | with_reducible refine mv ?_ | with_reducible refine m12 rfl ?_ | with_reducible refine TO.nil ?_ | ((with_reducible apply TX.region); (focus (simp only [List.toList_toArray] <;> exact rfl)); (focus rfl); (try dsimp only)) | fail)
          obtain ⟨v14, h18, hr⟩ := Option.bind_eq_some_iff.1 hr
          try dsimp only at hr
          apply TO.pop1 (by first | rfl | (simp only [twant, z1, List.getElem?_toArray, Option.bind_some, h1, h13, h15]; done)) (pop_strix rfl rfl us9 h18)
          (repeat (focus (show _ = _; first | exact k1 rfl | exact k2 rfl | (simp only [zz, ty_math_bits_Len64, Nat.reduceAdd, Nat.reduceMul, Nat.reduceLeDiff, h1, h13, h15] <;> exact rfl) | exact rfl)))
          with_reducible apply TO.here
          repeat (first | with_reducible refine mv ?_ | with_reducible refine m12 rfl ?_ | with_reducible refine TO.nil ?_ | ((with_reducible apply TX.region); (focus (simp only [List.toList_toArray] <;> exact rfl)); (focus rfl); (try dsimp only)) | fail)
          apply TO.pop1 (by first | rfl | (simp only [twant, z1, List.getElem?_toArray, Option.bind_some, h1, h13, h15]; done)) (cvt_int_int un5 un3 rfl)
          (repeat (focus (show _ = _; first | exact k1 rfl | exact k2 rfl | (simp only [zz, ty_math_bits_Len64, Nat.reduceAdd, Nat.reduceMul, Nat.reduceLeDiff, h1, h13, h15] <;> exact rfl) | exact rfl)))
          with_reducible apply TO.here
          repeat (first | with_reducible refine mv ?_ | with_reducible refine m12 rfl ?_ | with_reducible refine TO.nil ?_ | ((with_reducible first | apply TO.bin | apply TO.asg); (repeat (focus (show _ = _; first | exact k1 rfl | exact k2 rfl | (simp only [zz, ty_math_bits_Len64, Nat.reduceAdd, Nat.reduceMul, Nat.reduceLeDiff, h1, h13, h15] <;> exact rfl) | exact rfl))); (with_reducible refine TO.here ?_)) | ((with_reducible apply TX.region); (focus (simp only [List.toList_toArray] <;> exact rfl)); (focus rfl); (try dsimp only)) | fail)
          cases hr
          refine ⟨.inr rfl, _, (by simp only [zy, ty_math_bits_Len64, tresAll, tres, tload, rowOf, partT, h1, h13, h15]; exact rfl), ?_⟩
          exact Wk.ren [] rfl .nil (by (repeat (first | exact RNs.nil | refine RNs.cons .junk ?_ | refine RNs.cons (.keep rfl rfl) ?_ | refine RNs.cons (.lsl rfl rfl) ?_ | refine RNs.cons (.lsl rfl (by simp only [List.length_set])) ?_ | refine RNs.cons (.lptr rfl) ?_ | refine RNs.cons (.nil rfl) ?_ | refine RNs.cons .nl ?_ | refine RNs.cons (.keep (by simp only [h1, h13, h15]) rfl) ?_ | refine RNs.cons (.tuple' ?_) ?_ | refine RNs.cons (.agg' ?_) ?_)))
      · rw [if_neg (by rw [h13]; exact Bool.false_ne_true)] at hr
        repeat (first | with_reducible refine mv ?_ | with_reducible refine m12 rfl ?_ | with_reducible refine TO.nil ?_ | ((with_reducible first | apply TO.mv | apply TO.bin); (repeat (focus (show _ = _; first | exact k1 rfl | exact k2 rfl | (simp only [zz, ty_math_bits_Len64, Nat.reduceAdd, Nat.reduceMul, Nat.reduceLeDiff, h1, h13] <;> exact rfl) | exact rfl))); (with_reducible refine TO.here ?_)) | ((with_reducible apply TX.region); (focus (simp only [List.toList_toArray] <;> exact rfl)); (focus rfl); (try dsimp only)) | ((with_reducible apply TX.cond_true); (focus rfl); (focus (first | rfl | (simp only [z1, Bool.not_true, Bool.not_false, h1, h13]; done)))) | ((with_reducible apply TX.cond_false); (focus rfl); (focus (first | rfl | (simp only [z1, Bool.not_true, Bool.not_false, h1, h13]; done)))) | fail)
        rcases Bool.eq_false_or_eq_true ((decide (v1 ≥ 256))) with h19 | h19
        · rw [if_pos h19] at hr
          repeat (first | with_reducible refine mv ?_ | with_reducible refine m12 rfl ?_ | with_reducible refine TO.nil ?_ | ((with_reducible first | apply TO.mv); (repeat (focus (show _ = _; first | exact k1 rfl | exact k2 rfl | (simp only [zz, ty_math_bits_Len64, Nat.reduceAdd, Nat.reduceMul, Nat.reduceLeDiff, h1, h13, h19] <;> exact rfl) | exact rfl))); (with_reducible refine TO.here ?_)) | ((with_reducible apply TX.region); (focus (simp only [List.toList_toArray] <;> exact rfl)); (focus rfl); (try dsimp only)) | ((with_reducible apply TX.cond_true); (focus rfl); (focus (first | rfl | (simp only [z1, Bool.not_true, Bool.not_false, h1, h13, h19]; done)))) | ((with_reducible apply TX.cond_false); (focus rfl); (focus (first | rfl | (simp only [z1, Bool.not_true, Bool.not_false, h1, h13, h19]; done)))) | fail)
          obtain ⟨v15, h20, hr⟩ := Option.bind_eq_some_iff.1 hr
          try dsimp only at hr
          apply TO.pop1 (by first | rfl | (simp only [twant, z1, List.getElem?_toArray, Option.bind_some, h1, h13, h19]; done)) (pop_shift rfl rfl (by decide) (h20))
          (repeat (focus (show _ = _; first | exact k1 rfl | exact k2 rfl | (simp only [zz, ty_math_bits_Len64, Nat.reduceAdd, Nat.reduceMul, Nat.reduceLeDiff, h1, h13, h19] <;> exact rfl) | exact rfl)))
          with_reducible apply TO.here
          repeat (first | with_reducible refine mv ?_ | with_reducible refine m12 rfl ?_ | with_reducible refine TO.nil ?_ | ((with_reducible first | apply TO.asg | apply TO.mv | apply TO.bin); (repeat (focus (show _ = _; first | exact k1 rfl | exact k2 rfl | (simp only [zz, ty_math_bits_Len64, Nat.reduceAdd, Nat.reduceMul, Nat.reduceLeDiff, h1, h13, h19] <;> exact rfl) | exact rfl))); (with_reducible refine TO.here ?_)) | ((with_reducible apply TX.region); (focus (simp only [List.toList_toArray] <;> exact rfl)); (focus rfl); (try dsimp only)) | fail)
          apply TO.pop1 (by first | rfl | (simp only [twant, z1, List.getElem?_toArray, Option.bind_some, h1, h13, h19]; done)) (cvt_int_int un93 un5 rfl)
          (repeat (focus (show _ = _; first | exact k1 rfl | exact k2 rfl | (simp only [zz, ty_math_bits_Len64, Nat.reduceAdd, Nat.reduceMul, Nat.reduceLeDiff, h1, h13, h19] <;> exact rfl) | exact rfl)))
          with_reducible apply TO.here
          repeat (first | with_reducible refine mv ?_ | with_reducible refine m12 rfl ?_ | with_reducible refine TO.nil ?_ | ((with_reducible apply TX.region); (focus (simp only [List.toList_toArray] <;> exact rfl)); (focus rfl); (try dsimp only)) | fail)
          obtain ⟨v16, h21, hr⟩ := Option.bind_eq_some_iff.1 hr
          try dsimp only at hr
          apply TO.pop1 (by first | rfl | (simp only [twant, z1, List.getElem?_toArray, Option.bind_some, h1, h13, h19]; done)) (pop_strix rfl rfl us9 h21)
          (repeat (focus (show _ = _; first | exact k1 rfl | exact k2 rfl | (simp only [zz, ty_math_bits_Len64, Nat.reduceAdd, Nat.reduceMul, Nat.reduceLeDiff, h1, h13, h19] <;> exact rfl) | exact rfl)))
          with_reducible apply TO.here
          repeat (first | with_reducible refine mv ?_ | with_reducible refine m12 rfl ?_ | with_reducible refine TO.nil ?_ | ((with_reducible apply TX.region); (focus (simp only [List.toList_toArray] <;> exact rfl)); (focus rfl); (try dsimp only)) | fail)
          apply TO.pop1 (by first | rfl | (simp only [twant, z1, List.getElem?_toArray, Option.bind_some, h1, h13, h19]; done)) (cvt_int_int un5 un3 rfl)
          (repeat (focus (show _ = _; first | exact k1 rfl | exact k2 rfl | (simp only [zz, ty_math_bits_Len64, Nat.reduceAdd, Nat.reduceMul, Nat.reduceLeDiff, h1, h13, h19] <;> exact rfl) | exact rfl)))
          with_reducible apply TO.here
          repeat (first | with_reducible refine mv ?_ | with_reducible refine m12 rfl ?_ | with_reducible refine TO.nil ?_ | ((with_reducible first | apply TO.bin | apply TO.asg); (repeat (focus (show _ = _; first | exact k1 rfl | exact k2 rfl | (simp only [zz, ty_math_bits_Len64, Nat.reduceAdd, Nat.reduceMul, Nat.reduceLeDiff, h1, h13, h19] <;> exact rfl) | exact rfl))); (with_reducible refine TO.here ?_)) | ((with_reducible apply TX.region); (focus (simp only [List.toList_toArray] <;> exact rfl)); (focus rfl); (try dsimp only)) | fail)
          cases hr
          refine ⟨.inr rfl, _, (by simp only [zy, ty_math_bits_Len64, tresAll, tres, tload, rowOf, partT, h1, h13, h19]; exact rfl), ?_⟩
          exact Wk.ren [] rfl .nil (by (repeat (first | exact RNs.nil | refine RNs.cons .junk ?_ | refine RNs.cons (.keep rfl rfl) ?_ | refine RNs.cons (.lsl rfl rfl) ?_ | refine RNs.cons (.lsl rfl (by simp only [List.length_set])) ?_ | refine RNs.cons (.lptr rfl) ?_ | refine RNs.cons (.nil rfl) ?_ | refine RNs.cons .nl ?_ | refine RNs.cons (.keep (by simp only [h1, h13, h19]) rfl) ?_ | refine RNs.cons (.tuple' ?_) ?_ | refine RNs.cons (.agg' ?_) ?_)))
        · rw [if_neg (by rw [h19]; exact Bool.false_ne_true)] at hr
          repeat (first | with_reducible refine mv ?_ | with_reducible refine m12 rfl ?_ | with_reducible refine TO.nil ?_ | ((with_reducible first | apply TO.mv); (repeat (focus (show _ = _; first | exact k1 rfl | exact k2 rfl | (simp only [zz, ty_math_bits_Len64, Nat.reduceAdd, Nat.reduceMul, Nat.reduceLeDiff, h1, h13, h19] <;> exact rfl) | exact rfl))); (with_reducible refine TO.here ?_)) | ((with_reducible apply TX.region); (focus (simp only [List.toList_toArray] <;> exact rfl)); (focus rfl); (try dsimp only)) | ((with_reducible apply TX.cond_true); (focus rfl); (focus (first | rfl | (simp only [z1, Bool.not_true, Bool.not_false, h1, h13, h19]; done)))) | ((with_reducible apply TX.cond_false); (focus rfl); (focus (first | rfl | (simp only [z1, Bool.not_true, Bool.not_false, h1, h13, h19]; done)))) | fail)
          apply TO.pop1 (by first | rfl | (simp only [twant, z1, List.getElem?_toArray, Option.bind_some, h1, h13, h19]; done)) (cvt_int_int un93 un5 rfl)
          (repeat (focus (show _ = _; first | exact k1 rfl | exact k2 rfl | (simp only [zz, ty_math_bits_Len64, Nat.reduceAdd, Nat.reduceMul, Nat.reduceLeDiff, h1, h13, h19] <;> exact rfl) | exact rfl)))
          with_reducible apply TO.here
          repeat (first | with_reducible refine mv ?_ | with_reducible refine m12 rfl ?_ | with_reducible refine TO.nil ?_ | ((with_reducible apply TX.region); (focus (simp only [List.toList_toArray] <;> exact rfl)); (focus rfl); (try dsimp only)) | fail)
          obtain ⟨v17, h22, hr⟩ := Option.bind_eq_some_iff.1 hr
          try dsimp only at hr
          apply TO.pop1 (by first | rfl | (simp only [twant, z1, List.getElem?_toArray, Option.bind_some, h1, h13, h19]; done)) (pop_strix rfl rfl us9 h22)
          (repeat (focus (show _ = _; first | exact k1 rfl | exact k2 rfl | (simp only [zz, ty_math_bits_Len64, Nat.reduceAdd, Nat.reduceMul, Nat.reduceLeDiff, h1, h13, h19] <;> exact rfl) | exact rfl)))
          with_reducible apply TO.here
          repeat (first | with_reducible refine mv ?_ | with_reducible refine m12 rfl ?_ | with_reducible refine TO.nil ?_ | ((with_reducible apply TX.region); (focus (simp only [List.toList_toArray] <;> exact rfl)); (focus rfl); (try dsimp only)) | fail)
          apply TO.pop1 (by first | rfl | (simp only [twant, z1, List.getElem?_toArray, Option.bind_some, h1, h13, h19]; done)) (cvt_int_int un5 un3 rfl)
          (repeat (focus (show _ = _; first | exact k1 rfl | exact k2 rfl | (simp only [zz, ty_math_bits_Len64, Nat.reduceAdd, Nat.reduceMul, Nat.reduceLeDiff, h1, h13, h19] <;> exact rfl) | exact rfl)))
          with_reducible apply TO.here
          repeat (first | with_reducible refine mv ?_ | with_reducible refine m12 rfl ?_ | with_reducible refine TO.nil ?_ | ((with_reducible first | apply TO.bin | apply TO.asg); (repeat (focus (show _ = _; first | exact k1 rfl | exact k2 rfl | (simp only [zz, ty_math_bits_Len64, Nat.reduceAdd, Nat.reduceMul, Nat.reduceLeDiff, h1, h13, h19] <;> exact rfl) | exact rfl))); (with_reducible refine TO.here ?_)) | ((with_reducible apply TX.region); (focus (simp only [List.toList_toArray] <;> exact rfl)); (focus rfl); (try dsimp only)) | fail)
          cases hr
          refine ⟨.inr rfl, _, (by simp only [zy, ty_math_bits_Len64, tresAll, tres, tload, rowOf, partT, h1, h13, h19]; exact rfl), ?_⟩
          exact Wk.ren [] rfl .nil (by (repeat (first | exact RNs.nil | refine RNs.cons .junk ?_ | refine RNs.cons (.keep rfl rfl) ?_ | refine RNs.cons (.lsl rfl rfl) ?_ | refine RNs.cons (.lsl rfl (by simp only [List.length_set])) ?_ | refine RNs.cons (.lptr rfl) ?_ | refine RNs.cons (.nil rfl) ?_ | refine RNs.cons .nl ?_ | refine RNs.cons (.keep (by simp only [h1, h13, h19]) rfl) ?_ | refine RNs.cons (.tuple' ?_) ?_ | refine RNs.cons (.agg' ?_) ?_)))
  rfl

end Go.Rex

namespace Go.Rex
open Go.Proofs
open Go Go.Rex Go.RowKit
set_option maxRecDepth 100000
theorem math_bits_LeadingZeros64_spec {v1 : Int} {v2 : Int} (hr : math_bits_LeadingZeros64 v1 = some (v2)) : Spec (lim Try.prog) 56 [.v (.int .u64 v1)] ⟨[.v (.int .i64 v2)], []⟩ := by
  unfold math_bits_LeadingZeros64 at hr
  apply Spec.fn Try.func56 rfl
  focus (simp [Try.f56] <;> exact rfl)
  focus
    repeat (first | with_reducible refine mv ?_ | with_reducible refine m12 rfl ?_ | with_reducible refine TO.nil ?_ | ((with_reducible first | apply TO.asg | apply TO.mv); (repeat (focus (show _ = _; first | exact k1 rfl | exact k2 rfl | (simp only [zz, Nat.reduceAdd, Nat.reduceMul, Nat.reduceLeDiff] <;> exact rfl) | exact rfl))); (with_reducible refine TO.here ?_)) | ((with_reducible apply TX.region); (focus (simp only [List.toList_toArray] <;> exact rfl)); (focus rfl); (try dsimp only)) | fail)
    obtain ⟨v3, h1, hr⟩ := Option.bind_eq_some_iff.1 hr
    try dsimp only at hr
    apply TO.cal (by first | rfl | (simp only [twant, z1, List.getElem?_toArray, Option.bind_some]; done)) rfl goFn57 (math_bits_Len64_spec h1) rfl rfl rfl
    (repeat (focus (show _ = _; first | exact k1 rfl | exact k2 rfl | (simp only [zz, Nat.reduceAdd, Nat.reduceMul, Nat.reduceLeDiff, shift, kill, killB, frz, frzB, view, tml, tmlc, List.length_set] <;> exact rfl) | exact rfl)))
    with_reducible apply TO.here
    repeat (first | with_reducible refine mv ?_ | with_reducible refine m12 rfl ?_ | with_reducible refine TO.nil ?_ | ((with_reducible first | apply TO.bin | apply TO.asg); (repeat (focus (show _ = _; first | exact k1 rfl | exact k2 rfl | (simp only [zz, Nat.reduceAdd, Nat.reduceMul, Nat.reduceLeDiff] <;> exact rfl) | exact rfl))); (with_reducible refine TO.here ?_)) | ((with_reducible apply TX.region); (focus (simp only [List.toList_toArray] <;> exact rfl)); (focus rfl); (try dsimp only)) | fail)
    cases hr
    refine ⟨.inr rfl, _, (by simp only [zy, tresAll, tres, tload, rowOf, partT]; exact rfl), ?_⟩
    exact wr [] rfl .nil
  rfl

end Go.Rex
