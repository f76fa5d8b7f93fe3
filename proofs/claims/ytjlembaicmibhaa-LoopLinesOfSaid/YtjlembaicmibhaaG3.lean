/- Proofs that the program's functions do what these plain functions say. -/
import Derived.Test.YtjlembaicmibhaaGB
import Derived.Test.YtjlembaicmibhaaS
import Derived.Test.YtjlembaicmibhaaG1
import Derived.Test.YtjlembaicmibhaaG2
import Derived.Test.YtjlembaicmibhaaRexG9
import Derived.Test.YtjlembaicmibhaaM
set_option linter.unusedSimpArgs false
set_option linter.unusedVariables false
set_option linter.defProp false
namespace Go.Rex
open Go.Proofs
open Go Go.Rex Go.RowKit
set_option maxRecDepth 100000
set_option maxHeartbeats 1000000
def y24 := an @un157 <| an @un3 <| an @un5 <| an @us9 <| an @wi64_0a16 <| an @wi64_0a8 <| an @wi64_16a8 <| an @wi64_32a16 <| an @wi64_32a8 <| @wi64_48a8
theorem math_bits_Len64_spec {v1 : Int} {v2 : Int} (hr : math_bits_Len64 v1 = some (v2)) : Spec (lim Try.prog) 136 [.v (.int .u64 v1)] ⟨[.v (.int .i64 v2)], []⟩ := by
  unfold math_bits_Len64 at hr
  apply Spec.fn Try.func136 rfl
  focus (simp [Try.f136] <;> exact rfl)
  focus
    repeat (first | (with_reducible first | refine mv ?_ | refine m12 rfl ?_ | refine TO.nil ?_) | ((with_reducible first | apply TO.asg | apply TO.mv | apply TO.bin); (repeat (focus (show _ = _; first | exact k1 rfl | exact k2 rfl | (simp only [zz, y24, Nat.reduceAdd, Nat.reduceMul, Nat.reduceLeDiff, Nat.reduceEqDiff] <;> exact rfl) | exact rfl))); (with_reducible refine TO.here ?_)) | ((with_reducible apply TX.region); (focus (simp only [zl] <;> exact rfl)); (focus rfl); (try dsimp only)) | ((with_reducible apply TX.cond_true); (focus rfl); (focus (first | rfl | (simp only [z1, zn]; done)))) | ((with_reducible apply TX.cond_false); (focus rfl); (focus (first | rfl | (simp only [z1, zn]; done)))) | fail)
    rcases Bool.eq_false_or_eq_true ((decide (v1 ≥ 4294967296))) with h1 | h1
    · rw [if_pos h1] at hr
      repeat (first | (with_reducible first | refine mv ?_ | refine m12 rfl ?_ | refine TO.nil ?_) | ((with_reducible first | apply TO.mv); (repeat (focus (show _ = _; first | exact k1 rfl | exact k2 rfl | (simp only [zz, y24, Nat.reduceAdd, Nat.reduceMul, Nat.reduceLeDiff, Nat.reduceEqDiff, h1] <;> exact rfl) | exact rfl))); (with_reducible refine TO.here ?_)) | ((with_reducible apply TX.region); (focus (simp only [zl] <;> exact rfl)); (focus rfl); (try dsimp only)) | ((with_reducible apply TX.cond_true); (focus rfl); (focus (first | rfl | (simp only [z1, zn, h1]; done)))) | ((with_reducible apply TX.cond_false); (focus rfl); (focus (first | rfl | (simp only [z1, zn, h1]; done)))) | fail)
      obtain ⟨v3, h2, hr⟩ := Option.bind_eq_some_iff.1 hr
      try dsimp only at hr
      apply TO.pop1 (by first | rfl | (simp only [twant, z1, z7, h1] <;> rfl)) (pop_shift rfl rfl (by decide) (h2))
      (repeat (focus (show _ = _; first | exact k1 rfl | exact k2 rfl | (simp only [zz, y24, Nat.reduceAdd, Nat.reduceMul, Nat.reduceLeDiff, Nat.reduceEqDiff, h1] <;> exact rfl) | exact rfl)))
      with_reducible apply TO.here
      repeat (first | (with_reducible first | refine mv ?_ | refine m12 rfl ?_ | refine TO.nil ?_) | ((with_reducible first | apply TO.asg | apply TO.mv | apply TO.bin); (repeat (focus (show _ = _; first | exact k1 rfl | exact k2 rfl | (simp only [zz, y24, Nat.reduceAdd, Nat.reduceMul, Nat.reduceLeDiff, Nat.reduceEqDiff, h1] <;> exact rfl) | exact rfl))); (with_reducible refine TO.here ?_)) | ((with_reducible apply TX.region); (focus (simp only [zl] <;> exact rfl)); (focus rfl); (try dsimp only)) | ((with_reducible apply TX.cond_true); (focus rfl); (focus (first | rfl | (simp only [z1, zn, h1]; done)))) | ((with_reducible apply TX.cond_false); (focus rfl); (focus (first | rfl | (simp only [z1, zn, h1]; done)))) | fail)
      rcases Bool.eq_false_or_eq_true ((decide (v3 ≥ 65536))) with h3 | h3
      · rw [if_pos h3] at hr
        repeat (first | (with_reducible first | refine mv ?_ | refine m12 rfl ?_ | refine TO.nil ?_) | ((with_reducible first | apply TO.mv); (repeat (focus (show _ = _; first | exact k1 rfl | exact k2 rfl | (simp only [zz, y24, Nat.reduceAdd, Nat.reduceMul, Nat.reduceLeDiff, Nat.reduceEqDiff, h1, h3] <;> exact rfl) | exact rfl))); (with_reducible refine TO.here ?_)) | ((with_reducible apply TX.region); (focus (simp only [zl] <;> exact rfl)); (focus rfl); (try dsimp only)) | ((with_reducible apply TX.cond_true); (focus rfl); (focus (first | rfl | (simp only [z1, zn, h1, h3]; done)))) | ((with_reducible apply TX.cond_false); (focus rfl); (focus (first | rfl | (simp only [z1, zn, h1, h3]; done)))) | fail)
        obtain ⟨v4, h4, hr⟩ := Option.bind_eq_some_iff.1 hr
        try dsimp only at hr
        apply TO.pop1 (by first | rfl | (simp only [twant, z1, z7, h1, h3] <;> rfl)) (pop_shift rfl rfl (by decide) (h4))
        (repeat (focus (show _ = _; first | exact k1 rfl | exact k2 rfl | (simp only [zz, y24, Nat.reduceAdd, Nat.reduceMul, Nat.reduceLeDiff, Nat.reduceEqDiff, h1, h3] <;> exact rfl) | exact rfl)))
        with_reducible apply TO.here
        repeat (first | (with_reducible first | refine mv ?_ | refine m12 rfl ?_ | refine TO.nil ?_) | ((with_reducible first | apply TO.asg | apply TO.mv | apply TO.bin); (repeat (focus (show _ = _; first | exact k1 rfl | exact k2 rfl | (simp only [zz, y24, Nat.reduceAdd, Nat.reduceMul, Nat.reduceLeDiff, Nat.reduceEqDiff, h1, h3] <;> exact rfl) | exact rfl))); (with_reducible refine TO.here ?_)) | ((with_reducible apply TX.region); (focus (simp only [zl] <;> exact rfl)); (focus rfl); (try dsimp only)) | ((with_reducible apply TX.cond_true); (focus rfl); (focus (first | rfl | (simp only [z1, zn, h1, h3]; done)))) | ((with_reducible apply TX.cond_false); (focus rfl); (focus (first | rfl | (simp only [z1, zn, h1, h3]; done)))) | fail)
        rcases Bool.eq_false_or_eq_true ((decide (v4 ≥ 256))) with h5 | h5
        · rw [if_pos h5] at hr
          repeat (first | (with_reducible first | refine mv ?_ | refine m12 rfl ?_ | refine TO.nil ?_) | ((with_reducible first | apply TO.mv); (repeat (focus (show _ = _; first | exact k1 rfl | exact k2 rfl | (simp only [zz, y24, Nat.reduceAdd, Nat.reduceMul, Nat.reduceLeDiff, Nat.reduceEqDiff, h1, h3, h5] <;> exact rfl) | exact rfl))); (with_reducible refine TO.here ?_)) | ((with_reducible apply TX.region); (focus (simp only [zl] <;> exact rfl)); (focus rfl); (try dsimp only)) | ((with_reducible apply TX.cond_true); (focus rfl); (focus (first | rfl | (simp only [z1, zn, h1, h3, h5]; done)))) | ((with_reducible apply TX.cond_false); (focus rfl); (focus (first | rfl | (simp only [z1, zn, h1, h3, h5]; done)))) | fail)
          obtain ⟨v5, h6, hr⟩ := Option.bind_eq_some_iff.1 hr
          try dsimp only at hr
          apply TO.pop1 (by first | rfl | (simp only [twant, z1, z7, h1, h3, h5] <;> rfl)) (pop_shift rfl rfl (by decide) (h6))
          (repeat (focus (show _ = _; first | exact k1 rfl | exact k2 rfl | (simp only [zz, y24, Nat.reduceAdd, Nat.reduceMul, Nat.reduceLeDiff, Nat.reduceEqDiff, h1, h3, h5] <;> exact rfl) | exact rfl)))
          with_reducible apply TO.here
          repeat (first | (with_reducible first | refine mv ?_ | refine m12 rfl ?_ | refine TO.nil ?_) | ((with_reducible first | apply TO.asg | apply TO.mv | apply TO.bin); (repeat (focus (show _ = _; first | exact k1 rfl | exact k2 rfl | (simp only [zz, y24, Nat.reduceAdd, Nat.reduceMul, Nat.reduceLeDiff, Nat.reduceEqDiff, h1, h3, h5] <;> exact rfl) | exact rfl))); (with_reducible refine TO.here ?_)) | ((with_reducible apply TX.region); (focus (simp only [zl] <;> exact rfl)); (focus rfl); (try dsimp only)) | fail)
          apply TO.pop1 (by first | rfl | (simp only [twant, z1, z7, h1, h3, h5] <;> rfl)) (cvt_int_int un157 un5 rfl)
          (repeat (focus (show _ = _; first | exact k1 rfl | exact k2 rfl | (simp only [zz, y24, Nat.reduceAdd, Nat.reduceMul, Nat.reduceLeDiff, Nat.reduceEqDiff, h1, h3, h5] <;> exact rfl) | exact rfl)))
          with_reducible apply TO.here
          repeat (first | (with_reducible first | refine mv ?_ | refine m12 rfl ?_ | refine TO.nil ?_) | ((with_reducible apply TX.region); (focus (simp only [zl] <;> exact rfl)); (focus rfl); (try dsimp only)) | fail)
          obtain ⟨v6, h7, hr⟩ := Option.bind_eq_some_iff.1 hr
          try dsimp only at hr
          apply TO.pop1 (by first | rfl | (simp only [twant, z1, z7, h1, h3, h5] <;> rfl)) (pop_strix rfl rfl us9 h7)
          (repeat (focus (show _ = _; first | exact k1 rfl | exact k2 rfl | (simp only [zz, y24, Nat.reduceAdd, Nat.reduceMul, Nat.reduceLeDiff, Nat.reduceEqDiff, h1, h3, h5] <;> exact rfl) | exact rfl)))
          with_reducible apply TO.here
          repeat (first | (with_reducible first | refine mv ?_ | refine m12 rfl ?_ | refine TO.nil ?_) | ((with_reducible apply TX.region); (focus (simp only [zl] <;> exact rfl)); (focus rfl); (try dsimp only)) | fail)
          apply TO.pop1 (by first | rfl | (simp only [twant, z1, z7, h1, h3, h5] <;> rfl)) (cvt_int_int un5 un3 rfl)
          (repeat (focus (show _ = _; first | exact k1 rfl | exact k2 rfl | (simp only [zz, y24, Nat.reduceAdd, Nat.reduceMul, Nat.reduceLeDiff, Nat.reduceEqDiff, h1, h3, h5] <;> exact rfl) | exact rfl)))
          with_reducible apply TO.here
          repeat (first | (with_reducible first | refine mv ?_ | refine m12 rfl ?_ | refine TO.nil ?_) | ((with_reducible first | apply TO.bin | apply TO.asg); (repeat (focus (show _ = _; first | exact k1 rfl | exact k2 rfl | (simp only [zz, y24, Nat.reduceAdd, Nat.reduceMul, Nat.reduceLeDiff, Nat.reduceEqDiff, h1, h3, h5] <;> exact rfl) | exact rfl))); (with_reducible refine TO.here ?_)) | ((with_reducible apply TX.region); (focus (simp only [zl] <;> exact rfl)); (focus rfl); (try dsimp only)) | fail)
          cases hr
          refine ⟨.inr rfl, _, (by simp only [zy, y24, tresAll, tres, tload, rowOf, partT, h1, h3, h5]; exact rfl), ?_⟩
          exact Wk.ren [] rfl .nil (by (repeat (first | exact RNs.nil | refine RNs.cons .junk ?_ | refine RNs.cons (.keep rfl rfl) ?_ | refine RNs.cons (.lsl rfl rfl) ?_ | refine RNs.cons (.lsl rfl (by simp only [List.length_set])) ?_ | refine RNs.cons (.lptr rfl) ?_ | refine RNs.cons (.nil rfl) ?_ | refine RNs.cons .nl ?_ | refine RNs.cons (.keep (by simp only [h1, h3, h5]) rfl) ?_ | refine RNs.cons (.tuple' ?_) ?_ | refine RNs.cons (.agg' ?_) ?_)))
        · rw [if_neg (by rw [h5]; exact Bool.false_ne_true)] at hr
          repeat (first | (with_reducible first | refine mv ?_ | refine m12 rfl ?_ | refine TO.nil ?_) | ((with_reducible first | apply TO.mv); (repeat (focus (show _ = _; first | exact k1 rfl | exact k2 rfl | (simp only [zz, y24, Nat.reduceAdd, Nat.reduceMul, Nat.reduceLeDiff, Nat.reduceEqDiff, h1, h3, h5] <;> exact rfl) | exact rfl))); (with_reducible refine TO.here ?_)) | ((with_reducible apply TX.region); (focus (simp only [zl] <;> exact rfl)); (focus rfl); (try dsimp only)) | ((with_reducible apply TX.cond_true); (focus rfl); (focus (first | rfl | (simp only [z1, zn, h1, h3, h5]; done)))) | ((with_reducible apply TX.cond_false); (focus rfl); (focus (first | rfl | (simp only [z1, zn, h1, h3, h5]; done)))) | fail)
          apply TO.pop1 (by first | rfl | (simp only [twant, z1, z7, h1, h3, h5] <;> rfl)) (cvt_int_int un157 un5 rfl)
          (repeat (focus (show _ = _; first | exact k1 rfl | exact k2 rfl | (simp only [zz, y24, Nat.reduceAdd, Nat.reduceMul, Nat.reduceLeDiff, Nat.reduceEqDiff, h1, h3, h5] <;> exact rfl) | exact rfl)))
          with_reducible apply TO.here
          repeat (first | (with_reducible first | refine mv ?_ | refine m12 rfl ?_ | refine TO.nil ?_) | ((with_reducible apply TX.region); (focus (simp only [zl] <;> exact rfl)); (focus rfl); (try dsimp only)) | fail)
          obtain ⟨v7, h8, hr⟩ := Option.bind_eq_some_iff.1 hr
          try dsimp only at hr
          apply TO.pop1 (by first | rfl | (simp only [twant, z1, z7, h1, h3, h5] <;> rfl)) (pop_strix rfl rfl us9 h8)
          (repeat (focus (show _ = _; first | exact k1 rfl | exact k2 rfl | (simp only [zz, y24, Nat.reduceAdd, Nat.reduceMul, Nat.reduceLeDiff, Nat.reduceEqDiff, h1, h3, h5] <;> exact rfl) | exact rfl)))
          with_reducible apply TO.here
          repeat (first | (with_reducible first | refine mv ?_ | refine m12 rfl ?_ | refine TO.nil ?_) | ((with_reducible apply TX.region); (focus (simp only [zl] <;> exact rfl)); (focus rfl); (try dsimp only)) | fail)
          apply TO.pop1 (by first | rfl | (simp only [twant, z1, z7, h1, h3, h5] <;> rfl)) (cvt_int_int un5 un3 rfl)
          (repeat (focus (show _ = _; first | exact k1 rfl | exact k2 rfl | (simp only [zz, y24, Nat.reduceAdd, Nat.reduceMul, Nat.reduceLeDiff, Nat.reduceEqDiff, h1, h3, h5] <;> exact rfl) | exact rfl)))
          with_reducible apply TO.here
          repeat (first | (with_reducible first | refine mv ?_ | refine m12 rfl ?_ | refine TO.nil ?_) | ((with_reducible first | apply TO.bin | apply TO.asg); (repeat (focus (show _ = _; first | exact k1 rfl | exact k2 rfl | (simp only [zz, y24, Nat.reduceAdd, Nat.reduceMul, Nat.reduceLeDiff, Nat.reduceEqDiff, h1, h3, h5] <;> exact rfl) | exact rfl))); (with_reducible refine TO.here ?_)) | ((with_reducible apply TX.region); (focus (simp only [zl] <;> exact rfl)); (focus rfl); (try dsimp only)) | fail)
          cases hr
          refine ⟨.inr rfl, _, (by simp only [zy, y24, tresAll, tres, tload, rowOf, partT, h1, h3, h5]; exact rfl), ?_⟩
          exact Wk.ren [] rfl .nil (by (repeat (first | exact RNs.nil | refine RNs.cons .junk ?_ | refine RNs.cons (.keep rfl rfl) ?_ | refine RNs.cons (.lsl rfl rfl) ?_ | refine RNs.cons (.lsl rfl (by simp only [List.length_set])) ?_ | refine RNs.cons (.lptr rfl) ?_ | refine RNs.cons (.nil rfl) ?_ | refine RNs.cons .nl ?_ | refine RNs.cons (.keep (by simp only [h1, h3, h5]) rfl) ?_ | refine RNs.cons (.tuple' ?_) ?_ | refine RNs.cons (.agg' ?_) ?_)))
      · rw [if_neg (by rw [h3]; exact Bool.false_ne_true)] at hr
        repeat (first | (with_reducible first | refine mv ?_ | refine m12 rfl ?_ | refine TO.nil ?_) | ((with_reducible first | apply TO.mv | apply TO.bin); (repeat (focus (show _ = _; first | exact k1 rfl | exact k2 rfl | (simp only [zz, y24, Nat.reduceAdd, Nat.reduceMul, Nat.reduceLeDiff, Nat.reduceEqDiff, h1, h3] <;> exact rfl) | exact rfl))); (with_reducible refine TO.here ?_)) | ((with_reducible apply TX.region); (focus (simp only [zl] <;> exact rfl)); (focus rfl); (try dsimp only)) | ((with_reducible apply TX.cond_true); (focus rfl); (focus (first | rfl | (simp only [z1, zn, h1, h3]; done)))) | ((with_reducible apply TX.cond_false); (focus rfl); (focus (first | rfl | (simp only [z1, zn, h1, h3]; done)))) | fail)
        rcases Bool.eq_false_or_eq_true ((decide (v3 ≥ 256))) with h9 | h9
        · rw [if_pos h9] at hr
          repeat (first | (with_reducible first | refine mv ?_ | refine m12 rfl ?_ | refine TO.nil ?_) | ((with_reducible first | apply TO.mv); (repeat (focus (show _ = _; first | exact k1 rfl | exact k2 rfl | (simp only [zz, y24, Nat.reduceAdd, Nat.reduceMul, Nat.reduceLeDiff, Nat.reduceEqDiff, h1, h3, h9] <;> exact rfl) | exact rfl))); (with_reducible refine TO.here ?_)) | ((with_reducible apply TX.region); (focus (simp only [zl] <;> exact rfl)); (focus rfl); (try dsimp only)) | ((with_reducible apply TX.cond_true); (focus rfl); (focus (first | rfl | (simp only [z1, zn, h1, h3, h9]; done)))) | ((with_reducible apply TX.cond_false); (focus rfl); (focus (first | rfl | (simp only [z1, zn, h1, h3, h9]; done)))) | fail)
          obtain ⟨v8, h10, hr⟩ := Option.bind_eq_some_iff.1 hr
          try dsimp only at hr
          apply TO.pop1 (by first | rfl | (simp only [twant, z1, z7, h1, h3, h9] <;> rfl)) (pop_shift rfl rfl (by decide) (h10))
          (repeat (focus (show _ = _; first | exact k1 rfl | exact k2 rfl | (simp only [zz, y24, Nat.reduceAdd, Nat.reduceMul, Nat.reduceLeDiff, Nat.reduceEqDiff, h1, h3, h9] <;> exact rfl) | exact rfl)))
          with_reducible apply TO.here
          repeat (first | (with_reducible first | refine mv ?_ | refine m12 rfl ?_ | refine TO.nil ?_) | ((with_reducible first | apply TO.asg | apply TO.mv | apply TO.bin); (repeat (focus (show _ = _; first | exact k1 rfl | exact k2 rfl | (simp only [zz, y24, Nat.reduceAdd, Nat.reduceMul, Nat.reduceLeDiff, Nat.reduceEqDiff, h1, h3, h9] <;> exact rfl) | exact rfl))); (with_reducible refine TO.here ?_)) | ((with_reducible apply TX.region); (focus (simp only [zl] <;> exact rfl)); (focus rfl); (try dsimp only)) | fail)
          apply TO.pop1 (by first | rfl | (simp only [twant, z1, z7, h1, h3, h9] <;> rfl)) (cvt_int_int un157 un5 rfl)
          (repeat (focus (show _ = _; first | exact k1 rfl | exact k2 rfl | (simp only [zz, y24, Nat.reduceAdd, Nat.reduceMul, Nat.reduceLeDiff, Nat.reduceEqDiff, h1, h3, h9] <;> exact rfl) | exact rfl)))
          with_reducible apply TO.here
          repeat (first | (with_reducible first | refine mv ?_ | refine m12 rfl ?_ | refine TO.nil ?_) | ((with_reducible apply TX.region); (focus (simp only [zl] <;> exact rfl)); (focus rfl); (try dsimp only)) | fail)
          obtain ⟨v9, h11, hr⟩ := Option.bind_eq_some_iff.1 hr
          try dsimp only at hr
          apply TO.pop1 (by first | rfl | (simp only [twant, z1, z7, h1, h3, h9] <;> rfl)) (pop_strix rfl rfl us9 h11)
          (repeat (focus (show _ = _; first | exact k1 rfl | exact k2 rfl | (simp only [zz, y24, Nat.reduceAdd, Nat.reduceMul, Nat.reduceLeDiff, Nat.reduceEqDiff, h1, h3, h9] <;> exact rfl) | exact rfl)))
          with_reducible apply TO.here
          repeat (first | (with_reducible first | refine mv ?_ | refine m12 rfl ?_ | refine TO.nil ?_) | ((with_reducible apply TX.region); (focus (simp only [zl] <;> exact rfl)); (focus rfl); (try dsimp only)) | fail)
          apply TO.pop1 (by first | rfl | (simp only [twant, z1, z7, h1, h3, h9] <;> rfl)) (cvt_int_int un5 un3 rfl)
          (repeat (focus (show _ = _; first | exact k1 rfl | exact k2 rfl | (simp only [zz, y24, Nat.reduceAdd, Nat.reduceMul, Nat.reduceLeDiff, Nat.reduceEqDiff, h1, h3, h9] <;> exact rfl) | exact rfl)))
          with_reducible apply TO.here
          repeat (first | (with_reducible first | refine mv ?_ | refine m12 rfl ?_ | refine TO.nil ?_) | ((with_reducible first | apply TO.bin | apply TO.asg); (repeat (focus (show _ = _; first | exact k1 rfl | exact k2 rfl | (simp only [zz, y24, Nat.reduceAdd, Nat.reduceMul, Nat.reduceLeDiff, Nat.reduceEqDiff, h1, h3, h9] <;> exact rfl) | exact rfl))); (with_reducible refine TO.here ?_)) | ((with_reducible apply TX.region); (focus (simp only [zl] <;> exact rfl)); (focus rfl); (try dsimp only)) | fail)
          cases hr
          refine ⟨.inr rfl, _, (by simp only [zy, y24, tresAll, tres, tload, rowOf, partT, h1, h3, h9]; exact rfl), ?_⟩
          exact Wk.ren [] rfl .nil (by (repeat (first | exact RNs.nil | refine RNs.cons .junk ?_ | refine RNs.cons (.keep rfl rfl) ?_ | refine RNs.cons (.lsl rfl rfl) ?_ | refine RNs.cons (.lsl rfl (by simp only [List.length_set])) ?_ | refine RNs.cons (.lptr rfl) ?_ | refine RNs.cons (.nil rfl) ?_ | refine RNs.cons .nl ?_ | refine RNs.cons (.keep (by simp only [h1, h3, h9]) rfl) ?_ | refine RNs.cons (.tuple' ?_) ?_ | refine RNs.cons (.agg' ?_) ?_)))
        · rw [if_neg (by rw [h9]; exact Bool.false_ne_true)] at hr
          repeat (first | (with_reducible first | refine mv ?_ | refine m12 rfl ?_ | refine TO.nil ?_) | ((with_reducible first | apply TO.mv); (repeat (focus (show _ = _; first | exact k1 rfl | exact k2 rfl | (simp only [zz, y24, Nat.reduceAdd, Nat.reduceMul, Nat.reduceLeDiff, Nat.reduceEqDiff, h1, h3, h9] <;> exact rfl) | exact rfl))); (with_reducible refine TO.here ?_)) | ((with_reducible apply TX.region); (focus (simp only [zl] <;> exact rfl)); (focus rfl); (try dsimp only)) | ((with_reducible apply TX.cond_true); (focus rfl); (focus (first | rfl | (simp only [z1, zn, h1, h3, h9]; done)))) | ((with_reducible apply TX.cond_false); (focus rfl); (focus (first | rfl | (simp only [z1, zn, h1, h3, h9]; done)))) | fail)
          apply TO.pop1 (by first | rfl | (simp only [twant, z1, z7, h1, h3, h9] <;> rfl)) (cvt_int_int un157 un5 rfl)
          (repeat (focus (show _ = _; first | exact k1 rfl | exact k2 rfl | (simp only [zz, y24, Nat.reduceAdd, Nat.reduceMul, Nat.reduceLeDiff, Nat.reduceEqDiff, h1, h3, h9] <;> exact rfl) | exact rfl)))
          with_reducible apply TO.here
          repeat (first | (with_reducible first | refine mv ?_ | refine m12 rfl ?_ | refine TO.nil ?_) | ((with_reducible apply TX.region); (focus (simp only [zl] <;> exact rfl)); (focus rfl); (try dsimp only)) | fail)
          obtain ⟨v10, h12, hr⟩ := Option.bind_eq_some_iff.1 hr
          try dsimp only at hr
          apply TO.pop1 (by first | rfl | (simp only [twant, z1, z7, h1, h3, h9] <;> rfl)) (pop_strix rfl rfl us9 h12)
          (repeat (focus (show _ = _; first | exact k1 rfl | exact k2 rfl | (simp only [zz, y24, Nat.reduceAdd, Nat.reduceMul, Nat.reduceLeDiff, Nat.reduceEqDiff, h1, h3, h9] <;> exact rfl) | exact rfl)))
          with_reducible apply TO.here
          repeat (first | (with_reducible first | refine mv ?_ | refine m12 rfl ?_ | refine TO.nil ?_) | ((with_reducible apply TX.region); (focus (simp only [zl] <;> exact rfl)); (focus rfl); (try dsimp only)) | fail)
          apply TO.pop1 (by first | rfl | (simp only [twant, z1, z7, h1, h3, h9] <;> rfl)) (cvt_int_int un5 un3 rfl)
          (repeat (focus (show _ = _; first | exact k1 rfl | exact k2 rfl | (simp only [zz, y24, Nat.reduceAdd, Nat.reduceMul, Nat.reduceLeDiff, Nat.reduceEqDiff, h1, h3, h9] <;> exact rfl) | exact rfl)))
          with_reducible apply TO.here
          repeat (first | (with_reducible first | refine mv ?_ | refine m12 rfl ?_ | refine TO.nil ?_) | ((with_reducible first | apply TO.bin | apply TO.asg); (repeat (focus (show _ = _; first | exact k1 rfl | exact k2 rfl | (simp only [zz, y24, Nat.reduceAdd, Nat.reduceMul, Nat.reduceLeDiff, Nat.reduceEqDiff, h1, h3, h9] <;> exact rfl) | exact rfl))); (with_reducible refine TO.here ?_)) | ((with_reducible apply TX.region); (focus (simp only [zl] <;> exact rfl)); (focus rfl); (try dsimp only)) | fail)
          cases hr
          refine ⟨.inr rfl, _, (by simp only [zy, y24, tresAll, tres, tload, rowOf, partT, h1, h3, h9]; exact rfl), ?_⟩
          exact Wk.ren [] rfl .nil (by (repeat (first | exact RNs.nil | refine RNs.cons .junk ?_ | refine RNs.cons (.keep rfl rfl) ?_ | refine RNs.cons (.lsl rfl rfl) ?_ | refine RNs.cons (.lsl rfl (by simp only [List.length_set])) ?_ | refine RNs.cons (.lptr rfl) ?_ | refine RNs.cons (.nil rfl) ?_ | refine RNs.cons .nl ?_ | refine RNs.cons (.keep (by simp only [h1, h3, h9]) rfl) ?_ | refine RNs.cons (.tuple' ?_) ?_ | refine RNs.cons (.agg' ?_) ?_)))
    · rw [if_neg (by rw [h1]; exact Bool.false_ne_true)] at hr
      repeat (first | (with_reducible first | refine mv ?_ | refine m12 rfl ?_ | refine TO.nil ?_) | ((with_reducible first | apply TO.mv | apply TO.bin); (repeat (focus (show _ = _; first | exact k1 rfl | exact k2 rfl | (simp only [zz, y24, Nat.reduceAdd, Nat.reduceMul, Nat.reduceLeDiff, Nat.reduceEqDiff, h1] <;> exact rfl) | exact rfl))); (with_reducible refine TO.here ?_)) | ((with_reducible apply TX.region); (focus (simp only [zl] <;> exact rfl)); (focus rfl); (try dsimp only)) | ((with_reducible apply TX.cond_true); (focus rfl); (focus (first | rfl | (simp only [z1, zn, h1]; done)))) | ((with_reducible apply TX.cond_false); (focus rfl); (focus (first | rfl | (simp only [z1, zn, h1]; done)))) | fail)
      rcases Bool.eq_false_or_eq_true ((decide (v1 ≥ 65536))) with h13 | h13
      · rw [if_pos h13] at hr
        repeat (first | (with_reducible first | refine mv ?_ | refine m12 rfl ?_ | refine TO.nil ?_) | ((with_reducible first | apply TO.mv); (repeat (focus (show _ = _; first | exact k1 rfl | exact k2 rfl | (simp only [zz, y24, Nat.reduceAdd, Nat.reduceMul, Nat.reduceLeDiff, Nat.reduceEqDiff, h1, h13] <;> exact rfl) | exact rfl))); (with_reducible refine TO.here ?_)) | ((with_reducible apply TX.region); (focus (simp only [zl] <;> exact rfl)); (focus rfl); (try dsimp only)) | ((with_reducible apply TX.cond_true); (focus rfl); (focus (first | rfl | (simp only [z1, zn, h1, h13]; done)))) | ((with_reducible apply TX.cond_false); (focus rfl); (focus (first | rfl | (simp only [z1, zn, h1, h13]; done)))) | fail)
        obtain ⟨v11, h14, hr⟩ := Option.bind_eq_some_iff.1 hr
        try dsimp only at hr
        apply TO.pop1 (by first | rfl | (simp only [twant, z1, z7, h1, h13] <;> rfl)) (pop_shift rfl rfl (by decide) (h14))
        (repeat (focus (show _ = _; first | exact k1 rfl | exact k2 rfl | (simp only [zz, y24, Nat.reduceAdd, Nat.reduceMul, Nat.reduceLeDiff, Nat.reduceEqDiff, h1, h13] <;> exact rfl) | exact rfl)))
        with_reducible apply TO.here
        repeat (first | (with_reducible first | refine mv ?_ | refine m12 rfl ?_ | refine TO.nil ?_) | ((with_reducible first | apply TO.asg | apply TO.mv | apply TO.bin); (repeat (focus (show _ = _; first | exact k1 rfl | exact k2 rfl | (simp only [zz, y24, Nat.reduceAdd, Nat.reduceMul, Nat.reduceLeDiff, Nat.reduceEqDiff, h1, h13] <;> exact rfl) | exact rfl))); (with_reducible refine TO.here ?_)) | ((with_reducible apply TX.region); (focus (simp only [zl] <;> exact rfl)); (focus rfl); (try dsimp only)) | ((with_reducible apply TX.cond_true); (focus rfl); (focus (first | rfl | (simp only [z1, zn, h1, h13]; done)))) | ((with_reducible apply TX.cond_false); (focus rfl); (focus (first | rfl | (simp only [z1, zn, h1, h13]; done)))) | fail)
        rcases Bool.eq_false_or_eq_true ((decide (v11 ≥ 256))) with h15 | h15
        · rw [if_pos h15] at hr
          repeat (first | (with_reducible first | refine mv ?_ | refine m12 rfl ?_ | refine TO.nil ?_) | ((with_reducible first | apply TO.mv); (repeat (focus (show _ = _; first | exact k1 rfl | exact k2 rfl | (simp only [zz, y24, Nat.reduceAdd, Nat.reduceMul, Nat.reduceLeDiff, Nat.reduceEqDiff, h1, h13, h15] <;> exact rfl) | exact rfl))); (with_reducible refine TO.here ?_)) | ((with_reducible apply TX.region); (focus (simp only [zl] <;> exact rfl)); (focus rfl); (try dsimp only)) | ((with_reducible apply TX.cond_true); (focus rfl); (focus (first | rfl | (simp only [z1, zn, h1, h13, h15]; done)))) | ((with_reducible apply TX.cond_false); (focus rfl); (focus (first | rfl | (simp only [z1, zn, h1, h13, h15]; done)))) | fail)
          obtain ⟨v12, h16, hr⟩ := Option.bind_eq_some_iff.1 hr
          try dsimp only at hr
          apply TO.pop1 (by first | rfl | (simp only [twant, z1, z7, h1, h13, h15] <;> rfl)) (pop_shift rfl rfl (by decide) (h16))
          (repeat (focus (show _ = _; first | exact k1 rfl | exact k2 rfl | (simp only [zz, y24, Nat.reduceAdd, Nat.reduceMul, Nat.reduceLeDiff, Nat.reduceEqDiff, h1, h13, h15] <;> exact rfl) | exact rfl)))
          with_reducible apply TO.here
          repeat (first | (with_reducible first | refine mv ?_ | refine m12 rfl ?_ | refine TO.nil ?_) | ((with_reducible first | apply TO.asg | apply TO.mv | apply TO.bin); (repeat (focus (show _ = _; first | exact k1 rfl | exact k2 rfl | (simp only [zz, y24, Nat.reduceAdd, Nat.reduceMul, Nat.reduceLeDiff, Nat.reduceEqDiff, h1, h13, h15] <;> exact rfl) | exact rfl))); (with_reducible refine TO.here ?_)) | ((with_reducible apply TX.region); (focus (simp only [zl] <;> exact rfl)); (focus rfl); (try dsimp only)) | fail)
          apply TO.pop1 (by first | rfl | (simp only [twant, z1, z7, h1, h13, h15] <;> rfl)) (cvt_int_int un157 un5 rfl)
          (repeat (focus (show _ = _; first | exact k1 rfl | exact k2 rfl | (simp only [zz, y24, Nat.reduceAdd, Nat.reduceMul, Nat.reduceLeDiff, Nat.reduceEqDiff, h1, h13, h15] <;> exact rfl) | exact rfl)))
          with_reducible apply TO.here
          repeat (first | (with_reducible first | refine mv ?_ | refine m12 rfl ?_ | refine TO.nil ?_) | ((with_reducible apply TX.region); (focus (simp only [zl] <;> exact rfl)); (focus rfl); (try dsimp only)) | fail)
          obtain ⟨v13, h17, hr⟩ := Option.bind_eq_some_iff.1 hr
          try dsimp only at hr
          apply TO.pop1 (by first | rfl | (simp only [twant, z1, z7, h1, h13, h15] <;> rfl)) (pop_strix rfl rfl us9 h17)
          (repeat (focus (show _ = _; first | exact k1 rfl | exact k2 rfl | (simp only [zz, y24, Nat.reduceAdd, Nat.reduceMul, Nat.reduceLeDiff, Nat.reduceEqDiff, h1, h13, h15] <;> exact rfl) | exact rfl)))
          with_reducible apply TO.here
          repeat (first | (with_reducible first | refine mv ?_ | refine m12 rfl ?_ | refine TO.nil ?_) | ((with_reducible apply TX.region); (focus (simp only [zl] <;> exact rfl)); (focus rfl); (try dsimp only)) | fail)
          apply TO.pop1 (by first | rfl | (simp only [twant, z1, z7, h1, h13, h15] <;> rfl)) (cvt_int_int un5 un3 rfl)
          (repeat (focus (show _ = _; first | exact k1 rfl | exact k2 rfl | (simp only [zz, y24, Nat.reduceAdd, Nat.reduceMul, Nat.reduceLeDiff, Nat.reduceEqDiff, h1, h13, h15] <;> exact rfl) | exact rfl)))
          with_reducible apply TO.here
          repeat (first | (with_reducible first | refine mv ?_ | refine m12 rfl ?_ | refine TO.nil ?_) | ((with_reducible first | apply TO.bin | apply TO.asg); (repeat (focus (show _ = _; first | exact k1 rfl | exact k2 rfl | (simp only [zz, y24, Nat.reduceAdd, Nat.reduceMul, Nat.reduceLeDiff, Nat.reduceEqDiff, h1, h13, h15] <;> exact rfl) | exact rfl))); (with_reducible refine TO.here ?_)) | ((with_reducible apply TX.region); (focus (simp only [zl] <;> exact rfl)); (focus rfl); (try dsimp only)) | fail)
          cases hr
          refine ⟨.inr rfl, _, (by simp only [zy, y24, tresAll, tres, tload, rowOf, partT, h1, h13, h15]; exact rfl), ?_⟩
          exact Wk.ren [] rfl .nil (by (repeat (first | exact RNs.nil | refine RNs.cons .junk ?_ | refine RNs.cons (.keep rfl rfl) ?_ | refine RNs.cons (.lsl rfl rfl) ?_ | refine RNs.cons (.lsl rfl (by simp only [List.length_set])) ?_ | refine RNs.cons (.lptr rfl) ?_ | refine RNs.cons (.nil rfl) ?_ | refine RNs.cons .nl ?_ | refine RNs.cons (.keep (by simp only [h1, h13, h15]) rfl) ?_ | refine RNs.cons (.tuple' ?_) ?_ | refine RNs.cons (.agg' ?_) ?_)))
        · rw [if_neg (by rw [h15]; exact Bool.false_ne_true)] at hr
          repeat (first | (with_reducible first | refine mv ?_ | refine m12 rfl ?_ | refine TO.nil ?_) | ((with_reducible first | apply TO.mv); (repeat (focus (show _ = _; first | exact k1 rfl | exact k2 rfl | (simp only [zz, y24, Nat.reduceAdd, Nat.reduceMul, Nat.reduceLeDiff, Nat.reduceEqDiff, h1, h13, h15] <;> exact rfl) | exact rfl))); (with_reducible refine TO.here ?_)) | ((with_reducible apply TX.region); (focus (simp only [zl] <;> exact rfl)); (focus rfl); (try dsimp only)) | ((with_reducible apply TX.cond_true); (focus rfl); (focus (first | rfl | (simp only [z1, zn, h1, h13, h15]; done)))) | ((with_reducible apply TX.cond_false); (focus rfl); (focus (first | rfl | (simp only [z1, zn, h1, h13, h15]; done)))) | fail)
          apply TO.pop1 (by first | rfl | (simp only [twant, z1, z7, h1, h13, h15] <;> rfl)) (cvt_int_int un157 un5 rfl)
          (repeat (focus (show _ = _; first | exact k1 rfl | exact k2 rfl | (simp only [zz, y24, Nat.reduceAdd, Nat.reduceMul, Nat.reduceLeDiff, Nat.reduceEqDiff, h1, h13, h15] <;> exact rfl) | exact rfl)))
          with_reducible apply TO.here
          repeat (first | (with_reducible first | refine mv ?_ | refine m12 rfl ?_ | refine TO.nil ?_) | ((with_reducible apply TX.region); (focus (simp only [zl] <;> exact rfl)); (focus rfl); (try dsimp only)) | fail)
          obtain ⟨v14, h18, hr⟩ := Option.bind_eq_some_iff.1 hr
          try dsimp only at hr
          apply TO.pop1 (by first | rfl | (simp only [twant, z1, z7, h1, h13, h15] <;> rfl)) (pop_strix rfl rfl us9 h18)
          (repeat (focus (show _ = _; first | exact k1 rfl | exact k2 rfl | (simp only [zz, y24, Nat.reduceAdd, Nat.reduceMul, Nat.reduceLeDiff, Nat.reduceEqDiff, h1, h13, h15] <;> exact rfl) | exact rfl)))
          with_reducible apply TO.here
          repeat (first | (with_reducible first | refine mv ?_ | refine m12 rfl ?_ | refine TO.nil ?_) | ((with_reducible apply TX.region); (focus (simp only [zl] <;> exact rfl)); (focus rfl); (try dsimp only)) | fail)
          apply TO.pop1 (by first | rfl | (simp only [twant, z1, z7, h1, h13, h15] <;> rfl)) (cvt_int_int un5 un3 rfl)
          (repeat (focus (show _ = _; first | exact k1 rfl | exact k2 rfl | (simp only [zz, y24, Nat.reduceAdd, Nat.reduceMul, Nat.reduceLeDiff, Nat.reduceEqDiff, h1, h13, h15] <;> exact rfl) | exact rfl)))
          with_reducible apply TO.here
          repeat (first | (with_reducible first | refine mv ?_ | refine m12 rfl ?_ | refine TO.nil ?_) | ((with_reducible first | apply TO.bin | apply TO.asg); (repeat (focus (show _ = _; first | exact k1 rfl | exact k2 rfl | (simp only [zz, y24, Nat.reduceAdd, Nat.reduceMul, Nat.reduceLeDiff, Nat.reduceEqDiff, h1, h13, h15] <;> exact rfl) | exact rfl))); (with_reducible refine TO.here ?_)) | ((with_reducible apply TX.region); (focus (simp only [zl] <;> exact rfl)); (focus rfl); (try dsimp only)) | fail)
          cases hr
          refine ⟨.inr rfl, _, (by simp only [zy, y24, tresAll, tres, tload, rowOf, partT, h1, h13, h15]; exact rfl), ?_⟩
          exact Wk.ren [] rfl .nil (by (repeat (first | exact RNs.nil | refine RNs.cons .junk ?_ | refine RNs.cons (.keep rfl rfl) ?_ | refine RNs.cons (.lsl rfl rfl) ?_ | refine RNs.cons (.lsl rfl (by simp only [List.length_set])) ?_ | refine RNs.cons (.lptr rfl) ?_ | refine RNs.cons (.nil rfl) ?_ | refine RNs.cons .nl ?_ | refine RNs.cons (.keep (by simp only [h1, h13, h15]) rfl) ?_ | refine RNs.cons (.tuple' ?_) ?_ | refine RNs.cons (.agg' ?_) ?_)))
      · rw [if_neg (by rw [h13]; exact Bool.false_ne_true)] at hr
        repeat (first | (with_reducible first | refine mv ?_ | refine m12 rfl ?_ | refine TO.nil ?_) | ((with_reducible first | apply TO.mv | apply TO.bin); (repeat (focus (show _ = _; first | exact k1 rfl | exact k2 rfl | (simp only [zz, y24, Nat.reduceAdd, Nat.reduceMul, Nat.reduceLeDiff, Nat.reduceEqDiff, h1, h13] <;> exact rfl) | exact rfl))); (with_reducible refine TO.here ?_)) | ((with_reducible apply TX.region); (focus (simp only [zl] <;> exact rfl)); (focus rfl); (try dsimp only)) | ((with_reducible apply TX.cond_true); (focus rfl); (focus (first | rfl | (simp only [z1, zn, h1, h13]; done)))) | ((with_reducible apply TX.cond_false); (focus rfl); (focus (first | rfl | (simp only [z1, zn, h1, h13]; done)))) | fail)
        rcases Bool.eq_false_or_eq_true ((decide (v1 ≥ 256))) with h19 | h19
        · rw [if_pos h19] at hr
          repeat (first | (with_reducible first | refine mv ?_ | refine m12 rfl ?_ | refine TO.nil ?_) | ((with_reducible first | apply TO.mv); (repeat (focus (show _ = _; first | exact k1 rfl | exact k2 rfl | (simp only [zz, y24, Nat.reduceAdd, Nat.reduceMul, Nat.reduceLeDiff, Nat.reduceEqDiff, h1, h13, h19] <;> exact rfl) | exact rfl))); (with_reducible refine TO.here ?_)) | ((with_reducible apply TX.region); (focus (simp only [zl] <;> exact rfl)); (focus rfl); (try dsimp only)) | ((with_reducible apply TX.cond_true); (focus rfl); (focus (first | rfl | (simp only [z1, zn, h1, h13, h19]; done)))) | ((with_reducible apply TX.cond_false); (focus rfl); (focus (first | rfl | (simp only [z1, zn, h1, h13, h19]; done)))) | fail)
          obtain ⟨v15, h20, hr⟩ := Option.bind_eq_some_iff.1 hr
          try dsimp only at hr
          apply TO.pop1 (by first | rfl | (simp only [twant, z1, z7, h1, h13, h19] <;> rfl)) (pop_shift rfl rfl (by decide) (h20))
          (repeat (focus (show _ = _; first | exact k1 rfl | exact k2 rfl | (simp only [zz, y24, Nat.reduceAdd, Nat.reduceMul, Nat.reduceLeDiff, Nat.reduceEqDiff, h1, h13, h19] <;> exact rfl) | exact rfl)))
          with_reducible apply TO.here
          repeat (first | (with_reducible first | refine mv ?_ | refine m12 rfl ?_ | refine TO.nil ?_) | ((with_reducible first | apply TO.asg | apply TO.mv | apply TO.bin); (repeat (focus (show _ = _; first | exact k1 rfl | exact k2 rfl | (simp only [zz, y24, Nat.reduceAdd, Nat.reduceMul, Nat.reduceLeDiff, Nat.reduceEqDiff, h1, h13, h19] <;> exact rfl) | exact rfl))); (with_reducible refine TO.here ?_)) | ((with_reducible apply TX.region); (focus (simp only [zl] <;> exact rfl)); (focus rfl); (try dsimp only)) | fail)
          apply TO.pop1 (by first | rfl | (simp only [twant, z1, z7, h1, h13, h19] <;> rfl)) (cvt_int_int un157 un5 rfl)
          (repeat (focus (show _ = _; first | exact k1 rfl | exact k2 rfl | (simp only [zz, y24, Nat.reduceAdd, Nat.reduceMul, Nat.reduceLeDiff, Nat.reduceEqDiff, h1, h13, h19] <;> exact rfl) | exact rfl)))
          with_reducible apply TO.here
          repeat (first | (with_reducible first | refine mv ?_ | refine m12 rfl ?_ | refine TO.nil ?_) | ((with_reducible apply TX.region); (focus (simp only [zl] <;> exact rfl)); (focus rfl); (try dsimp only)) | fail)
          obtain ⟨v16, h21, hr⟩ := Option.bind_eq_some_iff.1 hr
          try dsimp only at hr
          apply TO.pop1 (by first | rfl | (simp only [twant, z1, z7, h1, h13, h19] <;> rfl)) (pop_strix rfl rfl us9 h21)
          (repeat (focus (show _ = _; first | exact k1 rfl | exact k2 rfl | (simp only [zz, y24, Nat.reduceAdd, Nat.reduceMul, Nat.reduceLeDiff, Nat.reduceEqDiff, h1, h13, h19] <;> exact rfl) | exact rfl)))
          with_reducible apply TO.here
          repeat (first | (with_reducible first | refine mv ?_ | refine m12 rfl ?_ | refine TO.nil ?_) | ((with_reducible apply TX.region); (focus (simp only [zl] <;> exact rfl)); (focus rfl); (try dsimp only)) | fail)
          apply TO.pop1 (by first | rfl | (simp only [twant, z1, z7, h1, h13, h19] <;> rfl)) (cvt_int_int un5 un3 rfl)
          (repeat (focus (show _ = _; first | exact k1 rfl | exact k2 rfl | (simp only [zz, y24, Nat.reduceAdd, Nat.reduceMul, Nat.reduceLeDiff, Nat.reduceEqDiff, h1, h13, h19] <;> exact rfl) | exact rfl)))
          with_reducible apply TO.here
          repeat (first | (with_reducible first | refine mv ?_ | refine m12 rfl ?_ | refine TO.nil ?_) | ((with_reducible first | apply TO.bin | apply TO.asg); (repeat (focus (show _ = _; first | exact k1 rfl | exact k2 rfl | (simp only [zz, y24, Nat.reduceAdd, Nat.reduceMul, Nat.reduceLeDiff, Nat.reduceEqDiff, h1, h13, h19] <;> exact rfl) | exact rfl))); (with_reducible refine TO.here ?_)) | ((with_reducible apply TX.region); (focus (simp only [zl] <;> exact rfl)); (focus rfl); (try dsimp only)) | fail)
          cases hr
          refine ⟨.inr rfl, _, (by simp only [zy, y24, tresAll, tres, tload, rowOf, partT, h1, h13, h19]; exact rfl), ?_⟩
          exact Wk.ren [] rfl .nil (by (repeat (first | exact RNs.nil | refine RNs.cons .junk ?_ | refine RNs.cons (.keep rfl rfl) ?_ | refine RNs.cons (.lsl rfl rfl) ?_ | refine RNs.cons (.lsl rfl (by simp only [List.length_set])) ?_ | refine RNs.cons (.lptr rfl) ?_ | refine RNs.cons (.nil rfl) ?_ | refine RNs.cons .nl ?_ | refine RNs.cons (.keep (by simp only [h1, h13, h19]) rfl) ?_ | refine RNs.cons (.tuple' ?_) ?_ | refine RNs.cons (.agg' ?_) ?_)))
        · rw [if_neg (by rw [h19]; exact Bool.false_ne_true)] at hr
          repeat (first | (with_reducible first | refine mv ?_ | refine m12 rfl ?_ | refine TO.nil ?_) | ((with_reducible first | apply TO.mv); (repeat (focus (show _ = _; first | exact k1 rfl | exact k2 rfl | (simp only [zz, y24, Nat.reduceAdd, Nat.reduceMul, Nat.reduceLeDiff, Nat.reduceEqDiff, h1, h13, h19] <;> exact rfl) | exact rfl))); (with_reducible refine TO.here ?_)) | ((with_reducible apply TX.region); (focus (simp only [zl] <;> exact rfl)); (focus rfl); (try dsimp only)) | ((with_reducible apply TX.cond_true); (focus rfl); (focus (first | rfl | (simp only [z1, zn, h1, h13, h19]; done)))) | ((with_reducible apply TX.cond_false); (focus rfl); (focus (first | rfl | (simp only [z1, zn, h1, h13, h19]; done)))) | fail)
          apply TO.pop1 (by first | rfl | (simp only [twant, z1, z7, h1, h13, h19] <;> rfl)) (cvt_int_int un157 un5 rfl)
          (repeat (focus (show _ = _; first | exact k1 rfl | exact k2 rfl | (simp only [zz, y24, Nat.reduceAdd, Nat.reduceMul, Nat.reduceLeDiff, Nat.reduceEqDiff, h1, h13, h19] <;> exact rfl) | exact rfl)))
          with_reducible apply TO.here
          repeat (first | (with_reducible first | refine mv ?_ | refine m12 rfl ?_ | refine TO.nil ?_) | ((with_reducible apply TX.region); (focus (simp only [zl] <;> exact rfl)); (focus rfl); (try dsimp only)) | fail)
          obtain ⟨v17, h22, hr⟩ := Option.bind_eq_some_iff.1 hr
          try dsimp only at hr
          apply TO.pop1 (by first | rfl | (simp only [twant, z1, z7, h1, h13, h19] <;> rfl)) (pop_strix rfl rfl us9 h22)
          (repeat (focus (show _ = _; first | exact k1 rfl | exact k2 rfl | (simp only [zz, y24, Nat.reduceAdd, Nat.reduceMul, Nat.reduceLeDiff, Nat.reduceEqDiff, h1, h13, h19] <;> exact rfl) | exact rfl)))
          with_reducible apply TO.here
          repeat (first | (with_reducible first | refine mv ?_ | refine m12 rfl ?_ | refine TO.nil ?_) | ((with_reducible apply TX.region); (focus (simp only [zl] <;> exact rfl)); (focus rfl); (try dsimp only)) | fail)
          apply TO.pop1 (by first | rfl | (simp only [twant, z1, z7, h1, h13, h19] <;> rfl)) (cvt_int_int un5 un3 rfl)
          (repeat (focus (show _ = _; first | exact k1 rfl | exact k2 rfl | (simp only [zz, y24, Nat.reduceAdd, Nat.reduceMul, Nat.reduceLeDiff, Nat.reduceEqDiff, h1, h13, h19] <;> exact rfl) | exact rfl)))
          with_reducible apply TO.here
          repeat (first | (with_reducible first | refine mv ?_ | refine m12 rfl ?_ | refine TO.nil ?_) | ((with_reducible first | apply TO.bin | apply TO.asg); (repeat (focus (show _ = _; first | exact k1 rfl | exact k2 rfl | (simp only [zz, y24, Nat.reduceAdd, Nat.reduceMul, Nat.reduceLeDiff, Nat.reduceEqDiff, h1, h13, h19] <;> exact rfl) | exact rfl))); (with_reducible refine TO.here ?_)) | ((with_reducible apply TX.region); (focus (simp only [zl] <;> exact rfl)); (focus rfl); (try dsimp only)) | fail)
          cases hr
          refine ⟨.inr rfl, _, (by simp only [zy, y24, tresAll, tres, tload, rowOf, partT, h1, h13, h19]; exact rfl), ?_⟩
          exact Wk.ren [] rfl .nil (by (repeat (first | exact RNs.nil | refine RNs.cons .junk ?_ | refine RNs.cons (.keep rfl rfl) ?_ | refine RNs.cons (.lsl rfl rfl) ?_ | refine RNs.cons (.lsl rfl (by simp only [List.length_set])) ?_ | refine RNs.cons (.lptr rfl) ?_ | refine RNs.cons (.nil rfl) ?_ | refine RNs.cons .nl ?_ | refine RNs.cons (.keep (by simp only [h1, h13, h19]) rfl) ?_ | refine RNs.cons (.tuple' ?_) ?_ | refine RNs.cons (.agg' ?_) ?_)))
  rfl

end Go.Rex

namespace Go.Rex
open Go.Proofs
open Go Go.Rex Go.RowKit
set_option maxRecDepth 100000
set_option maxHeartbeats 200000
theorem math_bits_Len_spec {v1 : Int} {v2 : Int} (hr : math_bits_Len v1 = some (v2)) : Spec (lim Try.prog) 134 [.v (.int .u64 v1)] ⟨[.v (.int .i64 v2)], []⟩ := by
  unfold math_bits_Len at hr
  apply Spec.fn Try.func134 rfl
  focus (simp [Try.f134] <;> exact rfl)
  focus
    repeat (first | (with_reducible first | refine mv ?_ | refine m12 rfl ?_ | refine TO.nil ?_) | ((with_reducible first | apply TO.asg | apply TO.mv); (repeat (focus (show _ = _; first | exact k1 rfl | exact k2 rfl | (simp only [zz, Nat.reduceAdd, Nat.reduceMul, Nat.reduceLeDiff, Nat.reduceEqDiff] <;> exact rfl) | exact rfl))); (with_reducible refine TO.here ?_)) | ((with_reducible apply TX.region); (focus (simp only [zl] <;> exact rfl)); (focus rfl); (try dsimp only)) | ((with_reducible apply TX.cond_true); (focus rfl); (focus (first | rfl | (simp only [z1, zn]; done)))) | ((with_reducible apply TX.cond_false); (focus rfl); (focus (first | rfl | (simp only [z1, zn]; done)))) | fail)
    obtain ⟨v3, h1, hr⟩ := Option.bind_eq_some_iff.1 hr
    try dsimp only at hr
    apply TO.cal (by first | rfl | (simp only [twant, z1, z7] <;> rfl)) rfl goFn136 (math_bits_Len64_spec h1) rfl rfl rfl
    (repeat (focus (show _ = _; first | exact k1 rfl | exact k2 rfl | (simp only [zz, Nat.reduceAdd, Nat.reduceMul, Nat.reduceLeDiff, Nat.reduceEqDiff, shift, kill, killB, frz, frzB, view, tml, tmlc, List.length_set] <;> exact rfl) | exact rfl)))
    with_reducible apply TO.here
    repeat (first | (with_reducible first | refine mv ?_ | refine m12 rfl ?_ | refine TO.nil ?_) | ((with_reducible first | apply TO.asg); (repeat (focus (show _ = _; first | exact k1 rfl | exact k2 rfl | (simp only [zz, Nat.reduceAdd, Nat.reduceMul, Nat.reduceLeDiff, Nat.reduceEqDiff] <;> exact rfl) | exact rfl))); (with_reducible refine TO.here ?_)) | ((with_reducible apply TX.region); (focus (simp only [zl] <;> exact rfl)); (focus rfl); (try dsimp only)) | fail)
    cases hr
    refine ⟨.inr rfl, _, (by simp only [zy, tresAll, tres, tload, rowOf, partT]; exact rfl), ?_⟩
    exact wr [] rfl .nil
  rfl

end Go.Rex

namespace Go.Rex
open Go.Proofs
open Go Go.Rex Go.RowKit
set_option maxRecDepth 100000
set_option maxHeartbeats 200000
def y25 := an @un153 <| @un3
theorem loop_root_spec {v1 : Int} {v2 : Int} (hr : loop_root v1 = some (v2)) : Spec (lim Try.prog) 130 [.v (.int .i64 v1)] ⟨[.v (.int .i64 v2)], []⟩ := by
  unfold loop_root at hr
  apply Spec.fn Try.func130 rfl
  focus (simp [Try.f130] <;> exact rfl)
  focus
    repeat (first | (with_reducible first | refine mv ?_ | refine m12 rfl ?_ | refine TO.nil ?_) | ((with_reducible first | apply TO.asg | apply TO.mv); (repeat (focus (show _ = _; first | exact k1 rfl | exact k2 rfl | (simp only [zz, y25, Nat.reduceAdd, Nat.reduceMul, Nat.reduceLeDiff, Nat.reduceEqDiff] <;> exact rfl) | exact rfl))); (with_reducible refine TO.here ?_)) | ((with_reducible apply TX.region); (focus (simp only [zl] <;> exact rfl)); (focus rfl); (try dsimp only)) | fail)
    apply TO.pop1 (by first | rfl | (simp only [twant, z1, z7] <;> rfl)) (cvt_int_int un3 un153 rfl)
    (repeat (focus (show _ = _; first | exact k1 rfl | exact k2 rfl | (simp only [zz, y25, Nat.reduceAdd, Nat.reduceMul, Nat.reduceLeDiff, Nat.reduceEqDiff] <;> exact rfl) | exact rfl)))
    with_reducible apply TO.here
    repeat (first | (with_reducible first | refine mv ?_ | refine m12 rfl ?_ | refine TO.nil ?_) | ((with_reducible apply TX.region); (focus (simp only [zl] <;> exact rfl)); (focus rfl); (try dsimp only)) | fail)
    obtain ⟨v3, h1, hr⟩ := Option.bind_eq_some_iff.1 hr
    try dsimp only at hr
    apply TO.cal (by first | rfl | (simp only [twant, z1, z7] <;> rfl)) rfl goFn134 (math_bits_Len_spec h1) rfl rfl rfl
    (repeat (focus (show _ = _; first | exact k1 rfl | exact k2 rfl | (simp only [zz, y25, Nat.reduceAdd, Nat.reduceMul, Nat.reduceLeDiff, Nat.reduceEqDiff, shift, kill, killB, frz, frzB, view, tml, tmlc, List.length_set] <;> exact rfl) | exact rfl)))
    with_reducible apply TO.here
    repeat (first | (with_reducible first | refine mv ?_ | refine m12 rfl ?_ | refine TO.nil ?_) | ((with_reducible first | apply TO.bin); (repeat (focus (show _ = _; first | exact k1 rfl | exact k2 rfl | (simp only [zz, y25, Nat.reduceAdd, Nat.reduceMul, Nat.reduceLeDiff, Nat.reduceEqDiff] <;> exact rfl) | exact rfl))); (with_reducible refine TO.here ?_)) | ((with_reducible apply TX.region); (focus (simp only [zl] <;> exact rfl)); (focus rfl); (try dsimp only)) | fail)
    obtain ⟨v4, h2, hr⟩ := Option.bind_eq_some_iff.1 hr
    try dsimp only at hr
    apply TO.pop1 (by first | rfl | (simp only [twant, z1, z7] <;> rfl)) (pop_shift rfl rfl (by decide) (h2))
    (repeat (focus (show _ = _; first | exact k1 rfl | exact k2 rfl | (simp only [zz, y25, Nat.reduceAdd, Nat.reduceMul, Nat.reduceLeDiff, Nat.reduceEqDiff] <;> exact rfl) | exact rfl)))
    with_reducible apply TO.here
    repeat (first | (with_reducible first | refine mv ?_ | refine m12 rfl ?_ | refine TO.nil ?_) | ((with_reducible first | apply TO.asg); (repeat (focus (show _ = _; first | exact k1 rfl | exact k2 rfl | (simp only [zz, y25, Nat.reduceAdd, Nat.reduceMul, Nat.reduceLeDiff, Nat.reduceEqDiff] <;> exact rfl) | exact rfl))); (with_reducible refine TO.here ?_)) | ((with_reducible apply TX.region); (focus (simp only [zl] <;> exact rfl)); (focus rfl); (try dsimp only)) | fail)
    obtain ⟨v7, h7, hr⟩ := Option.bind_eq_some_iff.1 hr
    try dsimp only at hr
    refine TX.loopE (step := loop_root_l1 v1) (x := v4) h7 (fun v5 => ⟨.v (.int .i64 v1) :: .junk :: .junk :: .v (.int .i64 v5) :: .junk :: .junk :: .junk :: .junk :: .junk :: .junk :: .junk :: .junk :: .junk :: .junk :: .junk :: .junk :: .junk :: .junk :: .junk :: .junk :: .junk :: .junk :: [], []⟩) (fun v6 => (.ret, ⟨.junk :: .junk :: .v (.int .i64 v6) :: .junk :: .junk :: .junk :: .junk :: .junk :: .junk :: .junk :: .junk :: .junk :: .junk :: .junk :: .junk :: .junk :: .junk :: .junk :: .junk :: .junk :: .junk :: .junk :: [], []⟩)) ?_ ?_ ?_ ?_
    · rintro v5 v0 hr
      dsimp only [loop_root_l1] at hr
      try dsimp only
      repeat (first | (with_reducible first | refine mv ?_ | refine m12 rfl ?_ | refine TO.nil ?_) | ((with_reducible first | apply TO.mv); (repeat (focus (show _ = _; first | exact k1 rfl | exact k2 rfl | (simp only [zz, y25, Nat.reduceAdd, Nat.reduceMul, Nat.reduceLeDiff, Nat.reduceEqDiff] <;> exact rfl) | exact rfl))); (with_reducible refine TO.here ?_)) | ((with_reducible apply TX.region); (focus (simp only [zl] <;> exact rfl)); (focus rfl); (try dsimp only)) | fail)
      by_cases h5 : v5 = 0
      · rw [if_pos h5] at hr
        cases hr
      · rw [if_neg h5] at hr
        repeat (first | (with_reducible first | refine mv ?_ | refine m12 rfl ?_ | refine TO.nil ?_) | ((with_reducible first | apply TO.bin | apply TO.asg | apply TO.mv); (repeat (focus (show _ = _; first | exact k1 rfl | exact k2 rfl | (simp only [zz, y25, Nat.reduceAdd, Nat.reduceMul, Nat.reduceLeDiff, Nat.reduceEqDiff, h5] <;> exact rfl) | exact rfl))); (with_reducible refine TO.here ?_)) | ((with_reducible apply TX.region); (focus (simp only [zl] <;> exact rfl)); (focus rfl); (try dsimp only)) | ((with_reducible apply TX.cond_true); (focus rfl); (focus (first | rfl | (simp only [z1, zn, h5]; done)))) | ((with_reducible apply TX.cond_false); (focus rfl); (focus (first | rfl | (simp only [z1, zn, h5]; done)))) | fail)
        rcases Bool.eq_false_or_eq_true ((decide ((IntKind.i64.wrap ((IntKind.i64.wrap (v5 + (IntKind.i64.wrap (v1.tdiv v5)))).tdiv 2)) ≥ v5))) with h6 | h6
        · rw [if_pos h6] at hr
          repeat (first | (with_reducible first | refine mv ?_ | refine m12 rfl ?_ | refine TO.nil ?_) | ((with_reducible first | apply TO.mv | apply TO.asg); (repeat (focus (show _ = _; first | exact k1 rfl | exact k2 rfl | (simp only [zz, y25, Nat.reduceAdd, Nat.reduceMul, Nat.reduceLeDiff, Nat.reduceEqDiff, h5, h6] <;> exact rfl) | exact rfl))); (with_reducible refine TO.here ?_)) | ((with_reducible apply TX.region); (focus (simp only [zl] <;> exact rfl)); (focus rfl); (try dsimp only)) | ((with_reducible apply TX.cond_true); (focus rfl); (focus (first | rfl | (simp only [z1, zn, h5, h6]; done)))) | ((with_reducible apply TX.cond_false); (focus rfl); (focus (first | rfl | (simp only [z1, zn, h5, h6]; done)))) | fail)
          cases hr
          refine ⟨rfl, ?_⟩
          exact Wk.ren [] rfl .nil (by (repeat (first | exact RNs.nil | refine RNs.cons .junk ?_ | refine RNs.cons (.keep rfl rfl) ?_ | refine RNs.cons (.lsl rfl rfl) ?_ | refine RNs.cons (.lsl rfl (by simp only [List.length_set])) ?_ | refine RNs.cons (.lptr rfl) ?_ | refine RNs.cons (.nil rfl) ?_ | refine RNs.cons .nl ?_ | refine RNs.cons (.keep (by simp only [h6]) rfl) ?_ | refine RNs.cons (.tuple' ?_) ?_ | refine RNs.cons (.agg' ?_) ?_)))
        · rw [if_neg (by rw [h6]; exact Bool.false_ne_true)] at hr
          repeat (first | (with_reducible first | refine mv ?_ | refine m12 rfl ?_ | refine TO.nil ?_) | ((with_reducible first | apply TO.mv | apply TO.asg); (repeat (focus (show _ = _; first | exact k1 rfl | exact k2 rfl | (simp only [zz, y25, Nat.reduceAdd, Nat.reduceMul, Nat.reduceLeDiff, Nat.reduceEqDiff, h5, h6] <;> exact rfl) | exact rfl))); (with_reducible refine TO.here ?_)) | ((with_reducible apply TX.region); (focus (simp only [zl] <;> exact rfl)); (focus rfl); (try dsimp only)) | ((with_reducible apply TX.cond_true); (focus rfl); (focus (first | rfl | (simp only [z1, zn, h5, h6]; done)))) | ((with_reducible apply TX.cond_false); (focus rfl); (focus (first | rfl | (simp only [z1, zn, h5, h6]; done)))) | fail)
          cases hr
          refine ⟨rfl, ?_⟩
          exact Wk.ren [] rfl .nil (by (repeat (first | exact RNs.nil | refine RNs.cons .junk ?_ | refine RNs.cons (.keep rfl rfl) ?_ | refine RNs.cons (.lsl rfl rfl) ?_ | refine RNs.cons (.lsl rfl (by simp only [List.length_set])) ?_ | refine RNs.cons (.lptr rfl) ?_ | refine RNs.cons (.nil rfl) ?_ | refine RNs.cons .nl ?_ | refine RNs.cons (.keep (by simp only [h6]) rfl) ?_ | refine RNs.cons (.tuple' ?_) ?_ | refine RNs.cons (.agg' ?_) ?_)))
    · intro e h; cases h
    · try dsimp only
      repeat (first | (with_reducible first | refine mv ?_ | refine m12 rfl ?_) | fail)
      cases hr
      refine ⟨.inr rfl, _, (by simp only [zy, y25, tresAll, tres, tload, rowOf, partT]; exact rfl), ?_⟩
      exact wr [] rfl .nil
    · try dsimp only
      exact wr [] rfl .nil
  rfl

end Go.Rex

namespace Go.Rex
open Go.Proofs
open Go Go.Rex Go.RowKit
set_option maxRecDepth 100000
set_option maxHeartbeats 200000
theorem loop_nearest_spec {v1 : Int} {v2 : Int} {v3 : Int} (hr : loop_nearest v1 v2 = some (v3)) : Spec (lim Try.prog) 83 [.v (.int .i64 v1), .v (.int .i64 v2)] ⟨[.v (.int .i64 v3)], []⟩ := by
  unfold loop_nearest at hr
  apply Spec.fn Try.func83 rfl
  focus (simp [Try.f83] <;> exact rfl)
  focus
    repeat (first | (with_reducible first | refine mv ?_ | refine m12 rfl ?_ | refine TO.nil ?_) | ((with_reducible first | apply TO.asg | apply TO.mv | apply TO.bin); (repeat (focus (show _ = _; first | exact k1 rfl | exact k2 rfl | (simp only [zz, Nat.reduceAdd, Nat.reduceMul, Nat.reduceLeDiff, Nat.reduceEqDiff] <;> exact rfl) | exact rfl))); (with_reducible refine TO.here ?_)) | ((with_reducible apply TX.region); (focus (simp only [zl] <;> exact rfl)); (focus rfl); (try dsimp only)) | fail)
    obtain ⟨v4, h1, hr⟩ := Option.bind_eq_some_iff.1 hr
    try dsimp only at hr
    apply TO.cal (by first | rfl | (simp only [twant, z1, z7] <;> rfl)) rfl goFn121 (loop_floor_spec h1) rfl rfl rfl
    (repeat (focus (show _ = _; first | exact k1 rfl | exact k2 rfl | (simp only [zz, Nat.reduceAdd, Nat.reduceMul, Nat.reduceLeDiff, Nat.reduceEqDiff, shift, kill, killB, frz, frzB, view, tml, tmlc, List.length_set] <;> exact rfl) | exact rfl)))
    with_reducible apply TO.here
    repeat (first | (with_reducible first | refine mv ?_ | refine m12 rfl ?_ | refine TO.nil ?_) | ((with_reducible first | apply TO.asg); (repeat (focus (show _ = _; first | exact k1 rfl | exact k2 rfl | (simp only [zz, Nat.reduceAdd, Nat.reduceMul, Nat.reduceLeDiff, Nat.reduceEqDiff] <;> exact rfl) | exact rfl))); (with_reducible refine TO.here ?_)) | ((with_reducible apply TX.region); (focus (simp only [zl] <;> exact rfl)); (focus rfl); (try dsimp only)) | fail)
    cases hr
    refine ⟨.inr rfl, _, (by simp only [zy, tresAll, tres, tload, rowOf, partT]; exact rfl), ?_⟩
    exact wr [] rfl .nil
  rfl

end Go.Rex

namespace Go.Rex
open Go.Proofs
open Go Go.Rex Go.RowKit
set_option maxRecDepth 100000
set_option maxHeartbeats 200000
def y26 := an @ag141 <| an @ag3 <| an @cs141 <| an @fd141_0 <| an @fd141_1 <| an @ok141 <| an @st141 <| @zc141
theorem loop_middle_spec {v1 : Int} {v2 : Int} {v3 : Int} {v4 : Int} {v5 : Int} {v6 : Int} (hr : loop_middle v1 v2 v3 v4 = some (v5, v6)) : Spec (lim Try.prog) 118 [.agg [.v (.int .i64 v1), .v (.int .i64 v2)], .agg [.v (.int .i64 v3), .v (.int .i64 v4)]] ⟨[.agg [.v (.int .i64 v5), .v (.int .i64 v6)]], []⟩ := by
  unfold loop_middle at hr
  apply Spec.fn Try.func118 rfl
  focus (simp [Try.f118] <;> exact rfl)
  focus
    repeat (first | (with_reducible first | refine mv ?_ | refine m12 rfl ?_ | refine TO.nil ?_) | ((with_reducible first | apply TO.bf | apply TO.al | apply TO.mv | apply TO.bin); (repeat (focus (show _ = _; first | exact k1 rfl | exact k2 rfl | (simp only [zz, y26, Nat.reduceAdd, Nat.reduceMul, Nat.reduceLeDiff, Nat.reduceEqDiff] <;> exact rfl) | exact rfl))); (with_reducible refine TO.here ?_)) | ((with_reducible apply TX.region); (focus (simp only [zl] <;> exact rfl)); (focus rfl); (try dsimp only)) | with_reducible refine TD.nil ?_ | ((with_reducible first | apply TD.fa | apply TD.ld | apply TD.ldw | apply TD.bin | apply TD.asg); (repeat (focus (show _ = _; first | exact k1 rfl | exact k2 rfl | (simp only [zz, y26, Nat.reduceAdd, Nat.reduceMul, Nat.reduceLeDiff, Nat.reduceEqDiff, tfieldAddr, tload, rowOf, partT, List.getElem?_map] <;> exact rfl) | exact rfl))); (with_reducible refine TD.here ?_)) | ((with_reducible apply TX.drawn); (focus decide +kernel); (focus (simp only [zl] <;> exact rfl)); (focus exact rfl); (try dsimp only)) | fail)
    obtain ⟨v7, h1, hr⟩ := Option.bind_eq_some_iff.1 hr
    try dsimp only at hr
    apply TO.cal (by first | rfl | (simp only [twant, z1, z7] <;> rfl)) rfl goFn130 (loop_root_spec h1) rfl rfl rfl
    (repeat (focus (show _ = _; first | exact k1 rfl | exact k2 rfl | (simp only [zz, y26, Nat.reduceAdd, Nat.reduceMul, Nat.reduceLeDiff, Nat.reduceEqDiff, shift, kill, killB, frz, frzB, view, tml, tmlc, List.length_set] <;> exact rfl) | exact rfl)))
    with_reducible apply TO.here
    repeat (first | (with_reducible first | refine mv ?_ | refine m12 rfl ?_ | refine TO.nil ?_) | ((with_reducible first | apply TO.asg | apply TO.mv | apply TO.bin); (repeat (focus (show _ = _; first | exact k1 rfl | exact k2 rfl | (simp only [zz, y26, Nat.reduceAdd, Nat.reduceMul, Nat.reduceLeDiff, Nat.reduceEqDiff] <;> exact rfl) | exact rfl))); (with_reducible refine TO.here ?_)) | ((with_reducible apply TX.region); (focus (simp only [zl] <;> exact rfl)); (focus rfl); (try dsimp only)) | fail)
    obtain ⟨v8, h2, hr⟩ := Option.bind_eq_some_iff.1 hr
    try dsimp only at hr
    apply TO.cal (by first | rfl | (simp only [twant, z1, z7] <;> rfl)) rfl goFn83 (loop_nearest_spec h2) rfl rfl rfl
    (repeat (focus (show _ = _; first | exact k1 rfl | exact k2 rfl | (simp only [zz, y26, Nat.reduceAdd, Nat.reduceMul, Nat.reduceLeDiff, Nat.reduceEqDiff, shift, kill, killB, frz, frzB, view, tml, tmlc, List.length_set] <;> exact rfl) | exact rfl)))
    with_reducible apply TO.here
    repeat (first | (with_reducible first | refine mv ?_ | refine m12 rfl ?_ | refine TO.nil ?_) | ((with_reducible first | apply TO.mv | apply TO.bin); (repeat (focus (show _ = _; first | exact k1 rfl | exact k2 rfl | (simp only [zz, y26, Nat.reduceAdd, Nat.reduceMul, Nat.reduceLeDiff, Nat.reduceEqDiff] <;> exact rfl) | exact rfl))); (with_reducible refine TO.here ?_)) | ((with_reducible apply TX.region); (focus (simp only [zl] <;> exact rfl)); (focus rfl); (try dsimp only)) | fail)
    obtain ⟨v9, h3, hr⟩ := Option.bind_eq_some_iff.1 hr
    try dsimp only at hr
    apply TO.cal (by first | rfl | (simp only [twant, z1, z7] <;> rfl)) rfl goFn83 (loop_nearest_spec h3) rfl rfl rfl
    (repeat (focus (show _ = _; first | exact k1 rfl | exact k2 rfl | (simp only [zz, y26, Nat.reduceAdd, Nat.reduceMul, Nat.reduceLeDiff, Nat.reduceEqDiff, shift, kill, killB, frz, frzB, view, tml, tmlc, List.length_set] <;> exact rfl) | exact rfl)))
    with_reducible apply TO.here
    repeat (first | (with_reducible first | refine mv ?_ | refine m12 rfl ?_ | refine TO.nil ?_) | ((with_reducible first | apply TO.bld | apply TO.sv); (repeat (focus (show _ = _; first | exact k1 rfl | exact k2 rfl | (simp only [zz, y26, Nat.reduceAdd, Nat.reduceMul, Nat.reduceLeDiff, Nat.reduceEqDiff, tbuild, tfill] <;> exact rfl) | exact rfl))); (with_reducible refine TO.here ?_)) | ((with_reducible apply TX.region); (focus (simp only [zl] <;> exact rfl)); (focus rfl); (try dsimp only)) | fail)
    cases hr
    refine ⟨.inr rfl, _, (by simp only [zy, y26, tresAll, tres, tload, rowOf, partT]; exact rfl), ?_⟩
    exact wr [] rfl .nil
  rfl

end Go.Rex

namespace Go.Rex
open Go.Proofs
open Go Go.Rex Go.RowKit
set_option maxRecDepth 100000
set_option maxHeartbeats 1000000
def y27 := an @ag141 <| an @by141 <| an @cs141 <| an @ok141 <| an @so88 <| an @st141 <| an @zc141 <| an @wi64_256a256 <| an @wi64_256a512 <| an @wi64_2m256 <| @wi64_256s256
theorem loop_newCircle_spec {v1 : (List (Int × Int))} (hr : loop_newCircle = some (v1)) : Spec (lim Try.prog) 78 [] ⟨[.lsl 0 0 v1.length], [.rows 2 (v1.map e_ii)]⟩ := by
  unfold loop_newCircle at hr
  apply Spec.fn Try.func78 rfl
  focus (simp [Try.f78] <;> exact rfl)
  focus
    repeat (first | (with_reducible first | refine mv ?_ | refine m12 rfl ?_ | refine TO.nil ?_) | ((with_reducible first | apply TO.asg); (repeat (focus (show _ = _; first | exact k1 rfl | exact k2 rfl | (simp only [zz, y27, e_ii, Nat.reduceAdd, Nat.reduceMul, Nat.reduceLeDiff, Nat.reduceEqDiff] <;> exact rfl) | exact rfl))); (with_reducible refine TO.here ?_)) | ((with_reducible apply TX.region); (focus (simp only [zl] <;> exact rfl)); (focus rfl); (try dsimp only)) | fail)
    obtain ⟨v2, h1, hr⟩ := Option.bind_eq_some_iff.1 hr
    try dsimp only at hr
    apply TO.mk e_ii h1 (by first | rfl | (simp only [twant, z1, z7] <;> rfl)) rfl rfl so88 zc141 by141 rfl rfl rfl
    (repeat (focus (show _ = _; first | exact k1 rfl | exact k2 rfl | (simp only [zz, y27, e_ii, Nat.reduceAdd, Nat.reduceMul, Nat.reduceLeDiff, Nat.reduceEqDiff] <;> exact rfl) | exact rfl)))
    with_reducible apply TO.here
    repeat (first | (with_reducible first | refine mv ?_ | refine m12 rfl ?_ | refine TO.nil ?_) | ((with_reducible first | apply TO.asg | apply TO.mv | apply TO.bld); (repeat (focus (show _ = _; first | exact k1 rfl | exact k2 rfl | (simp only [zz, y27, e_ii, Nat.reduceAdd, Nat.reduceMul, Nat.reduceLeDiff, Nat.reduceEqDiff, tbuild, tfill] <;> exact rfl) | exact rfl))); (with_reducible refine TO.here ?_)) | ((with_reducible apply TX.region); (focus (simp only [zl] <;> exact rfl)); (focus rfl); (try dsimp only)) | fail)
    obtain ⟨⟨v3, v4⟩, h2, hr⟩ := Option.bind_eq_some_iff.1 hr
    try dsimp only at hr
    have h2m := tidx_map (f := e_ii) h2
    have h2l := getI_lt h2
    try simp only [List.length_set] at h2l
    have h2a := getI_at h2
    repeat (first | (with_reducible first | refine mv ?_ | refine m12 rfl ?_ | refine TO.nil ?_) | ((with_reducible first | apply TO.ia); (repeat (focus (show _ = _; first | exact k1 rfl | exact k2 rfl | (simp only [zz, y27, e_ii, Nat.reduceAdd, Nat.reduceMul, Nat.reduceLeDiff, Nat.reduceEqDiff, tindexAddr, Nat.zero_add, h2m, h2l, h2a] <;> exact rfl) | exact rfl))); (with_reducible refine TO.here ?_)) | ((with_reducible apply TX.region); (focus (simp only [zl] <;> exact rfl)); (focus rfl); (try dsimp only)) | fail)
    apply TO.sr e_ii v2 (v3, v4) (67108864, 0) h2a (by first | rfl | (simp only [twant, z1, z7, h2m, h2l, h2a] <;> rfl)) rfl rfl rfl rfl rfl ok141 (by rw [cs141]; rfl) rfl rfl rfl rfl
    (repeat (focus (show _ = _; first | exact k1 rfl | exact k2 rfl | (simp only [zz, y27, e_ii, Nat.reduceAdd, Nat.reduceMul, Nat.reduceLeDiff, Nat.reduceEqDiff, shift, kill, killB, frz, frzB, view, tml, tmlc, List.length_set, h2m, h2l, h2a] <;> exact rfl) | exact rfl)))
    with_reducible apply TO.here
    repeat (first | (with_reducible first | refine mv ?_ | refine m12 rfl ?_ | refine TO.nil ?_) | ((with_reducible first | apply TO.mv | apply TO.bld); (repeat (focus (show _ = _; first | exact k1 rfl | exact k2 rfl | (simp only [zz, y27, e_ii, Nat.reduceAdd, Nat.reduceMul, Nat.reduceLeDiff, Nat.reduceEqDiff, tbuild, tfill, h2m, h2l, h2a] <;> exact rfl) | exact rfl))); (with_reducible refine TO.here ?_)) | ((with_reducible apply TX.region); (focus (simp only [zl] <;> exact rfl)); (focus rfl); (try dsimp only)) | fail)
    obtain ⟨⟨v5, v6⟩, h3, hr⟩ := Option.bind_eq_some_iff.1 hr
    try dsimp only at hr
    have h3m := tidx_map (f := e_ii) h3
    have h3l := getI_lt h3
    try simp only [List.length_set] at h3l
    have h3a := getI_at h3
    repeat (first | (with_reducible first | refine mv ?_ | refine m12 rfl ?_ | refine TO.nil ?_) | ((with_reducible first | apply TO.ia); (repeat (focus (show _ = _; first | exact k1 rfl | exact k2 rfl | (simp only [zz, y27, e_ii, Nat.reduceAdd, Nat.reduceMul, Nat.reduceLeDiff, Nat.reduceEqDiff, tindexAddr, Nat.zero_add, h2m, h2l, h2a, h3m, h3l, h3a] <;> exact rfl) | exact rfl))); (with_reducible refine TO.here ?_)) | ((with_reducible apply TX.region); (focus (simp only [zl] <;> exact rfl)); (focus rfl); (try dsimp only)) | fail)
    apply TO.sr e_ii (v2.set (0 : Int).toNat (67108864, 0)) (v5, v6) (47453132, 47453132) h3a (by first | rfl | (simp only [twant, z1, z7, h2m, h2l, h2a, h3m, h3l, h3a] <;> rfl)) rfl rfl rfl rfl rfl ok141 (by rw [cs141]; rfl) rfl rfl rfl rfl
    (repeat (focus (show _ = _; first | exact k1 rfl | exact k2 rfl | (simp only [zz, y27, e_ii, Nat.reduceAdd, Nat.reduceMul, Nat.reduceLeDiff, Nat.reduceEqDiff, shift, kill, killB, frz, frzB, view, tml, tmlc, List.length_set, h2m, h2l, h2a, h3m, h3l, h3a] <;> exact rfl) | exact rfl)))
    with_reducible apply TO.here
    repeat (first | (with_reducible first | refine mv ?_ | refine m12 rfl ?_ | refine TO.nil ?_) | ((with_reducible first | apply TO.mv); (repeat (focus (show _ = _; first | exact k1 rfl | exact k2 rfl | (simp only [zz, y27, e_ii, Nat.reduceAdd, Nat.reduceMul, Nat.reduceLeDiff, Nat.reduceEqDiff, h2m, h2l, h2a, h3m, h3l, h3a] <;> exact rfl) | exact rfl))); (with_reducible refine TO.here ?_)) | ((with_reducible apply TX.region); (focus (simp only [zl] <;> exact rfl)); (focus rfl); (try dsimp only)) | fail)
    obtain ⟨⟨v7, v8⟩, h4, hr⟩ := Option.bind_eq_some_iff.1 hr
    try dsimp only at hr
    have h4m := tidx_map (f := e_ii) h4
    have h4l := getI_lt h4
    try simp only [List.length_set] at h4l
    have h4a := getI_at h4
    repeat (first | (with_reducible first | refine mv ?_ | refine m12 rfl ?_ | refine TO.nil ?_) | ((with_reducible first | apply TO.ia | apply TO.ld); (repeat (focus (show _ = _; first | exact k1 rfl | exact k2 rfl | (simp only [zz, y27, e_ii, Nat.reduceAdd, Nat.reduceMul, Nat.reduceLeDiff, Nat.reduceEqDiff, tindexAddr, Nat.zero_add, tload, rowOf, partT, List.getElem?_map, h2m, h2l, h2a, h3m, h3l, h3a, h4m, h4l, h4a] <;> exact rfl) | exact rfl))); (with_reducible refine TO.here ?_)) | ((with_reducible apply TX.region); (focus (simp only [zl] <;> exact rfl)); (focus rfl); (try dsimp only)) | fail)
    obtain ⟨⟨v9, v10⟩, h5, hr⟩ := Option.bind_eq_some_iff.1 hr
    try dsimp only at hr
    apply TO.cal (by first | rfl | (simp only [twant, z1, z7, h2m, h2l, h2a, h3m, h3l, h3a, h4m, h4l, h4a] <;> rfl)) rfl goFn117 (loop_direction_turned_spec h5) rfl rfl rfl
    (repeat (focus (show _ = _; first | exact k1 rfl | exact k2 rfl | (simp only [zz, y27, e_ii, Nat.reduceAdd, Nat.reduceMul, Nat.reduceLeDiff, Nat.reduceEqDiff, shift, kill, killB, frz, frzB, view, tml, tmlc, List.length_set, h2m, h2l, h2a, h3m, h3l, h3a, h4m, h4l, h4a] <;> exact rfl) | exact rfl)))
    with_reducible apply TO.here
    repeat (first | (with_reducible first | refine mv ?_ | refine m12 rfl ?_ | refine TO.nil ?_) | ((with_reducible apply TX.region); (focus (simp only [zl] <;> exact rfl)); (focus rfl); (try dsimp only)) | fail)
    obtain ⟨⟨v11, v12⟩, h6, hr⟩ := Option.bind_eq_some_iff.1 hr
    try dsimp only at hr
    have h6m := tidx_map (f := e_ii) h6
    have h6l := getI_lt h6
    try simp only [List.length_set] at h6l
    have h6a := getI_at h6
    repeat (first | (with_reducible first | refine mv ?_ | refine m12 rfl ?_ | refine TO.nil ?_) | ((with_reducible first | apply TO.ia); (repeat (focus (show _ = _; first | exact k1 rfl | exact k2 rfl | (simp only [zz, y27, e_ii, Nat.reduceAdd, Nat.reduceMul, Nat.reduceLeDiff, Nat.reduceEqDiff, tindexAddr, Nat.zero_add, h2m, h2l, h2a, h3m, h3l, h3a, h4m, h4l, h4a, h6m, h6l, h6a] <;> exact rfl) | exact rfl))); (with_reducible refine TO.here ?_)) | ((with_reducible apply TX.region); (focus (simp only [zl] <;> exact rfl)); (focus rfl); (try dsimp only)) | fail)
    apply TO.sr e_ii ((v2.set (0 : Int).toNat (67108864, 0)).set (512 : Int).toNat (47453132, 47453132)) (v11, v12) (v9, v10) h6a (by first | rfl | (simp only [twant, z1, z7, h2m, h2l, h2a, h3m, h3l, h3a, h4m, h4l, h4a, h6m, h6l, h6a] <;> rfl)) rfl rfl rfl rfl rfl ok141 (by rw [cs141]; rfl) rfl rfl rfl rfl
    (repeat (focus (show _ = _; first | exact k1 rfl | exact k2 rfl | (simp only [zz, y27, e_ii, Nat.reduceAdd, Nat.reduceMul, Nat.reduceLeDiff, Nat.reduceEqDiff, shift, kill, killB, frz, frzB, view, tml, tmlc, List.length_set, h2m, h2l, h2a, h3m, h3l, h3a, h4m, h4l, h4a, h6m, h6l, h6a] <;> exact rfl) | exact rfl)))
    with_reducible apply TO.here
    repeat (first | (with_reducible first | refine mv ?_ | refine m12 rfl ?_ | refine TO.nil ?_) | ((with_reducible first | apply TO.asg); (repeat (focus (show _ = _; first | exact k1 rfl | exact k2 rfl | (simp only [zz, y27, e_ii, Nat.reduceAdd, Nat.reduceMul, Nat.reduceLeDiff, Nat.reduceEqDiff, h2m, h2l, h2a, h3m, h3l, h3a, h4m, h4l, h4a, h6m, h6l, h6a] <;> exact rfl) | exact rfl))); (with_reducible refine TO.here ?_)) | ((with_reducible apply TX.region); (focus (simp only [zl] <;> exact rfl)); (focus rfl); (try dsimp only)) | fail)
    obtain ⟨v56, h31, hr⟩ := Option.bind_eq_some_iff.1 hr
    try dsimp only at hr
    refine TX.loopE (step := loop_newCircle_l1) (x := ((((v2.set (0 : Int).toNat (67108864, 0)).set (512 : Int).toNat (47453132, 47453132)).set (1024 : Int).toNat (v9, v10)), 256)) h31 (fun (v13, v14) => ⟨.junk :: .lsl 0 0 v13.length :: .v (.int .i64 v14) :: .junk :: .junk :: .junk :: .junk :: .junk :: .junk :: .junk :: .junk :: .junk :: .junk :: .junk :: .junk :: .junk :: .junk :: .junk :: .junk :: .junk :: .junk :: .junk :: .junk :: .junk :: .junk :: .junk :: .junk :: .junk :: .junk :: .junk :: .junk :: .junk :: .junk :: .junk :: .junk :: .junk :: .junk :: .junk :: .junk :: .junk :: .junk :: .junk :: .junk :: .junk :: .junk :: [], [.rows 2 (v13.map e_ii)]⟩) (fun v35 => (.exit 0, ⟨.junk :: .lsl 0 0 v35.length :: .junk :: .junk :: .junk :: .junk :: .junk :: .junk :: .junk :: .junk :: .junk :: .junk :: .junk :: .junk :: .junk :: .junk :: .junk :: .junk :: .junk :: .junk :: .junk :: .junk :: .junk :: .junk :: .junk :: .junk :: .junk :: .junk :: .junk :: .junk :: .junk :: .junk :: .junk :: .junk :: .junk :: .junk :: .junk :: .junk :: .junk :: .junk :: .junk :: .junk :: .junk :: .junk :: .junk :: [], [.rows 2 (v35.map e_ii)]⟩)) ?_ ?_ ?_ ?_
    · rintro ⟨v13, v14⟩ v0 hr
      dsimp only [loop_newCircle_l1] at hr
      try dsimp only
      repeat (first | (with_reducible first | refine mv ?_ | refine m12 rfl ?_ | refine TO.nil ?_) | ((with_reducible first | apply TO.mv | apply TO.bin); (repeat (focus (show _ = _; first | exact k1 rfl | exact k2 rfl | (simp only [zz, y27, e_ii, Nat.reduceAdd, Nat.reduceMul, Nat.reduceLeDiff, Nat.reduceEqDiff, h2m, h2l, h2a, h3m, h3l, h3a, h4m, h4l, h4a, h6m, h6l, h6a] <;> exact rfl) | exact rfl))); (with_reducible refine TO.here ?_)) | ((with_reducible apply TX.region); (focus (simp only [zl] <;> exact rfl)); (focus rfl); (try dsimp only)) | ((with_reducible apply TX.cond_true); (focus rfl); (focus (first | rfl | (simp only [z1, zn, h2m, h2l, h2a, h3m, h3l, h3a, h4m, h4l, h4a, h6m, h6l, h6a]; done)))) | ((with_reducible apply TX.cond_false); (focus rfl); (focus (first | rfl | (simp only [z1, zn, h2m, h2l, h2a, h3m, h3l, h3a, h4m, h4l, h4a, h6m, h6l, h6a]; done)))) | fail)
      rcases Bool.eq_false_or_eq_true ((decide (v14 > 0))) with h19 | h19
      · rw [if_pos h19] at hr
        repeat (first | (with_reducible first | refine mv ?_ | refine m12 rfl ?_ | refine TO.nil ?_) | ((with_reducible first | apply TO.mv | apply TO.asg); (repeat (focus (show _ = _; first | exact k1 rfl | exact k2 rfl | (simp only [zz, y27, e_ii, Nat.reduceAdd, Nat.reduceMul, Nat.reduceLeDiff, Nat.reduceEqDiff, h2m, h2l, h2a, h3m, h3l, h3a, h4m, h4l, h4a, h6m, h6l, h6a, h19] <;> exact rfl) | exact rfl))); (with_reducible refine TO.here ?_)) | ((with_reducible apply TX.region); (focus (simp only [zl] <;> exact rfl)); (focus rfl); (try dsimp only)) | ((with_reducible apply TX.cond_true); (focus rfl); (focus (first | rfl | (simp only [z1, zn, h2m, h2l, h2a, h3m, h3l, h3a, h4m, h4l, h4a, h6m, h6l, h6a, h19]; done)))) | ((with_reducible apply TX.cond_false); (focus rfl); (focus (first | rfl | (simp only [z1, zn, h2m, h2l, h2a, h3m, h3l, h3a, h4m, h4l, h4a, h6m, h6l, h6a, h19]; done)))) | fail)
        obtain ⟨v55, h30, hr⟩ := Option.bind_eq_some_iff.1 hr
        try dsimp only at hr
        refine TX.loopE (step := loop_newCircle_l2 v14) (x := (v13, v14)) h30 (fun (v36, v37) => ⟨.junk :: .lsl 0 0 v36.length :: .v (.int .i64 v14) :: .v (.int .i64 v37) :: .junk :: .junk :: .junk :: .junk :: .junk :: .junk :: .junk :: .junk :: .junk :: .junk :: .junk :: .junk :: .junk :: .junk :: .junk :: .junk :: .junk :: .junk :: .junk :: .junk :: .junk :: .junk :: .junk :: .junk :: .junk :: .junk :: .junk :: .junk :: .junk :: .junk :: .junk :: .junk :: .junk :: .junk :: .junk :: .junk :: .junk :: .junk :: .junk :: .junk :: .junk :: [], [.rows 2 (v36.map e_ii)]⟩) (fun v46 => (.exit 2, ⟨.junk :: .lsl 0 0 v46.length :: .v (.int .i64 v14) :: .junk :: .junk :: .junk :: .junk :: .junk :: .junk :: .junk :: .junk :: .junk :: .junk :: .junk :: .junk :: .junk :: .junk :: .junk :: .junk :: .junk :: .junk :: .junk :: .junk :: .junk :: .junk :: .junk :: .junk :: .junk :: .junk :: .junk :: .junk :: .junk :: .junk :: .junk :: .junk :: .junk :: .junk :: .junk :: .junk :: .junk :: .junk :: .junk :: .junk :: .junk :: .junk :: [], [.rows 2 (v46.map e_ii)]⟩)) ?_ ?_ ?_ ?_
        · rintro ⟨v36, v37⟩ v0 hr
          dsimp only [loop_newCircle_l2] at hr
          try dsimp only
          repeat (first | (with_reducible first | refine mv ?_ | refine m12 rfl ?_ | refine TO.nil ?_) | ((with_reducible first | apply TO.mv | apply TO.bin); (repeat (focus (show _ = _; first | exact k1 rfl | exact k2 rfl | (simp only [zz, y27, e_ii, Nat.reduceAdd, Nat.reduceMul, Nat.reduceLeDiff, Nat.reduceEqDiff, h2m, h2l, h2a, h3m, h3l, h3a, h4m, h4l, h4a, h6m, h6l, h6a, h19] <;> exact rfl) | exact rfl))); (with_reducible refine TO.here ?_)) | ((with_reducible apply TX.region); (focus (simp only [zl] <;> exact rfl)); (focus rfl); (try dsimp only)) | ((with_reducible apply TX.cond_true); (focus rfl); (focus (first | rfl | (simp only [z1, zn, h2m, h2l, h2a, h3m, h3l, h3a, h4m, h4l, h4a, h6m, h6l, h6a, h19]; done)))) | ((with_reducible apply TX.cond_false); (focus rfl); (focus (first | rfl | (simp only [z1, zn, h2m, h2l, h2a, h3m, h3l, h3a, h4m, h4l, h4a, h6m, h6l, h6a, h19]; done)))) | fail)
          rcases Bool.eq_false_or_eq_true ((decide (v37 < 1024))) with h25 | h25
          · rw [if_pos h25] at hr
            repeat (first | (with_reducible first | refine mv ?_ | refine m12 rfl ?_ | refine TD.nil ?_) | ((with_reducible first | apply TD.mv | apply TD.bin); (repeat (focus (show _ = _; first | exact k1 rfl | exact k2 rfl | (simp only [zz, y27, e_ii, Nat.reduceAdd, Nat.reduceMul, Nat.reduceLeDiff, Nat.reduceEqDiff, h2m, h2l, h2a, h3m, h3l, h3a, h4m, h4l, h4a, h6m, h6l, h6a, h19, h25] <;> exact rfl) | exact rfl))); (with_reducible refine TD.here ?_)) | ((with_reducible apply TX.drawn); (focus decide +kernel); (focus (simp only [zl] <;> exact rfl)); (focus exact rfl); (try dsimp only)) | ((with_reducible apply TX.cond_true); (focus rfl); (focus (first | rfl | (simp only [z1, zn, h2m, h2l, h2a, h3m, h3l, h3a, h4m, h4l, h4a, h6m, h6l, h6a, h19, h25]; done)))) | ((with_reducible apply TX.cond_false); (focus rfl); (focus (first | rfl | (simp only [z1, zn, h2m, h2l, h2a, h3m, h3l, h3a, h4m, h4l, h4a, h6m, h6l, h6a, h19, h25]; done)))) | fail)
            obtain ⟨⟨v47, v48⟩, h26, hr⟩ := Option.bind_eq_some_iff.1 hr
            try dsimp only at hr
            have h26m := tidx_map (f := e_ii) h26
            have h26l := getI_lt h26
            try simp only [List.length_set] at h26l
            have h26a := getI_at h26
            repeat (first | (with_reducible first | refine mv ?_ | refine m12 rfl ?_ | refine TD.nil ?_) | ((with_reducible first | apply TD.ia | apply TD.ld | apply TD.ldw | apply TD.mv | apply TD.bin); (repeat (focus (show _ = _; first | exact k1 rfl | exact k2 rfl | (simp only [zz, y27, e_ii, Nat.reduceAdd, Nat.reduceMul, Nat.reduceLeDiff, Nat.reduceEqDiff, tindexAddr, Nat.zero_add, tload, rowOf, partT, List.getElem?_map, h2m, h2l, h2a, h3m, h3l, h3a, h4m, h4l, h4a, h6m, h6l, h6a, h19, h25, h26m, h26l, h26a] <;> exact rfl) | exact rfl))); (with_reducible refine TD.here ?_)) | ((with_reducible apply TX.drawn); (focus decide +kernel); (focus (simp only [zl] <;> exact rfl)); (focus exact rfl); (try dsimp only)) | fail)
            obtain ⟨⟨v49, v50⟩, h27, hr⟩ := Option.bind_eq_some_iff.1 hr
            try dsimp only at hr
            have h27m := tidx_map (f := e_ii) h27
            have h27l := getI_lt h27
            try simp only [List.length_set] at h27l
            have h27a := getI_at h27
            repeat (first | (with_reducible first | refine mv ?_ | refine m12 rfl ?_ | refine TD.nil ?_) | ((with_reducible first | apply TD.ia | apply TD.ld | apply TD.ldw); (repeat (focus (show _ = _; first | exact k1 rfl | exact k2 rfl | (simp only [zz, y27, e_ii, Nat.reduceAdd, Nat.reduceMul, Nat.reduceLeDiff, Nat.reduceEqDiff, tindexAddr, Nat.zero_add, tload, rowOf, partT, List.getElem?_map, h2m, h2l, h2a, h3m, h3l, h3a, h4m, h4l, h4a, h6m, h6l, h6a, h19, h25, h26m, h26l, h26a, h27m, h27l, h27a] <;> exact rfl) | exact rfl))); (with_reducible refine TD.here ?_)) | ((with_reducible apply TX.drawn); (focus decide +kernel); (focus (simp only [zl] <;> exact rfl)); (focus exact rfl); (try dsimp only)) | fail)
            obtain ⟨⟨v51, v52⟩, h28, hr⟩ := Option.bind_eq_some_iff.1 hr
            try dsimp only at hr
            first | apply TD.cal (by first | rfl | (simp only [twant, z1, z7, h2m, h2l, h2a, h3m, h3l, h3a, h4m, h4l, h4a, h6m, h6l, h6a, h19, h25, h26m, h26l, h26a, h27m, h27l, h27a] <;> rfl)) rfl goFn118 (loop_middle_spec h28) rfl rfl rfl | apply TD.calw (by first | rfl | (simp only [twant, z1, z7, h2m, h2l, h2a, h3m, h3l, h3a, h4m, h4l, h4a, h6m, h6l, h6a, h19, h25, h26m, h26l, h26a, h27m, h27l, h27a] <;> rfl)) rfl goFn118 (loop_middle_spec h28) rfl rfl rfl rfl
            (repeat (focus (show _ = _; first | exact k1 rfl | exact k2 rfl | (simp only [zz, y27, e_ii, Nat.reduceAdd, Nat.reduceMul, Nat.reduceLeDiff, Nat.reduceEqDiff, shift, kill, killB, frz, frzB, view, tml, tmlc, List.length_set, h2m, h2l, h2a, h3m, h3l, h3a, h4m, h4l, h4a, h6m, h6l, h6a, h19, h25, h26m, h26l, h26a, h27m, h27l, h27a] <;> exact rfl) | exact rfl)))
            with_reducible apply TD.here
            repeat (first | (with_reducible first | refine mv ?_ | refine m12 rfl ?_ | refine TD.nil ?_) | ((with_reducible apply TX.drawn); (focus decide +kernel); (focus (simp only [zl] <;> exact rfl)); (focus exact rfl); (try dsimp only)) | fail)
            obtain ⟨⟨v53, v54⟩, h29, hr⟩ := Option.bind_eq_some_iff.1 hr
            try dsimp only at hr
            have h29m := tidx_map (f := e_ii) h29
            have h29l := getI_lt h29
            try simp only [List.length_set] at h29l
            have h29a := getI_at h29
            repeat (first | (with_reducible first | refine mv ?_ | refine m12 rfl ?_ | refine TD.nil ?_) | ((with_reducible first | apply TD.ia); (repeat (focus (show _ = _; first | exact k1 rfl | exact k2 rfl | (simp only [zz, y27, e_ii, Nat.reduceAdd, Nat.reduceMul, Nat.reduceLeDiff, Nat.reduceEqDiff, tindexAddr, Nat.zero_add, h2m, h2l, h2a, h3m, h3l, h3a, h4m, h4l, h4a, h6m, h6l, h6a, h19, h25, h26m, h26l, h26a, h27m, h27l, h27a, h29m, h29l, h29a] <;> exact rfl) | exact rfl))); (with_reducible refine TD.here ?_)) | ((with_reducible apply TX.drawn); (focus decide +kernel); (focus (simp only [zl] <;> exact rfl)); (focus exact rfl); (try dsimp only)) | fail)
            apply TD.sr e_ii v36 (v53, v54) (v51, v52) h29a (by first | rfl | (simp only [twant, z1, z7, h2m, h2l, h2a, h3m, h3l, h3a, h4m, h4l, h4a, h6m, h6l, h6a, h19, h25, h26m, h26l, h26a, h27m, h27l, h27a, h29m, h29l, h29a] <;> rfl)) rfl rfl rfl rfl rfl ok141 (by rw [cs141]; rfl) rfl rfl rfl rfl rfl
            (repeat (focus (show _ = _; first | exact k1 rfl | exact k2 rfl | (simp only [zz, y27, e_ii, Nat.reduceAdd, Nat.reduceMul, Nat.reduceLeDiff, Nat.reduceEqDiff, shift, kill, killB, frz, frzB, view, tml, tmlc, List.length_set, h2m, h2l, h2a, h3m, h3l, h3a, h4m, h4l, h4a, h6m, h6l, h6a, h19, h25, h26m, h26l, h26a, h27m, h27l, h27a, h29m, h29l, h29a] <;> exact rfl) | exact rfl)))
            with_reducible apply TD.here
            repeat (first | (with_reducible first | refine mv ?_ | refine m12 rfl ?_ | refine TO.nil ?_) | ((with_reducible first | apply TO.mv | apply TO.bin | apply TO.asg); (repeat (focus (show _ = _; first | exact k1 rfl | exact k2 rfl | (simp only [zz, y27, e_ii, Nat.reduceAdd, Nat.reduceMul, Nat.reduceLeDiff, Nat.reduceEqDiff, h2m, h2l, h2a, h3m, h3l, h3a, h4m, h4l, h4a, h6m, h6l, h6a, h19, h25, h26m, h26l, h26a, h27m, h27l, h27a, h29m, h29l, h29a] <;> exact rfl) | exact rfl))); (with_reducible refine TO.here ?_)) | ((with_reducible apply TX.region); (focus (simp only [zl] <;> exact rfl)); (focus rfl); (try dsimp only)) | with_reducible refine TD.nil ?_ | ((with_reducible apply TX.drawn); (focus decide +kernel); (focus (simp only [zl] <;> exact rfl)); (focus exact rfl); (try dsimp only)) | fail)
            cases hr
            refine ⟨rfl, ?_⟩
            exact Wk.ren [some 0] rfl (.rows .nil rfl rfl) (by (repeat (first | exact RNs.nil | refine RNs.cons .junk ?_ | refine RNs.cons (.keep rfl rfl) ?_ | refine RNs.cons (.lsl rfl rfl) ?_ | refine RNs.cons (.lsl rfl (by simp only [List.length_set])) ?_ | refine RNs.cons (.lptr rfl) ?_ | refine RNs.cons (.nil rfl) ?_ | refine RNs.cons .nl ?_ | refine RNs.cons (.keep (by simp only [h19, h25]) rfl) ?_ | refine RNs.cons (.tuple' ?_) ?_ | refine RNs.cons (.agg' ?_) ?_)))
          · rw [if_neg (by rw [h25]; exact Bool.false_ne_true)] at hr
            repeat (first | (with_reducible first | refine mv ?_ | refine m12 rfl ?_) | ((with_reducible apply TX.cond_true); (focus rfl); (focus (first | rfl | (simp only [z1, zn, h2m, h2l, h2a, h3m, h3l, h3a, h4m, h4l, h4a, h6m, h6l, h6a, h19, h25]; done)))) | ((with_reducible apply TX.cond_false); (focus rfl); (focus (first | rfl | (simp only [z1, zn, h2m, h2l, h2a, h3m, h3l, h3a, h4m, h4l, h4a, h6m, h6l, h6a, h19, h25]; done)))) | fail)
            cases hr
            refine ⟨rfl, ?_⟩
            exact Wk.ren [some 0] rfl (.rows .nil rfl rfl) (by (repeat (first | exact RNs.nil | refine RNs.cons .junk ?_ | refine RNs.cons (.keep rfl rfl) ?_ | refine RNs.cons (.lsl rfl rfl) ?_ | refine RNs.cons (.lsl rfl (by simp only [List.length_set])) ?_ | refine RNs.cons (.lptr rfl) ?_ | refine RNs.cons (.nil rfl) ?_ | refine RNs.cons .nl ?_ | refine RNs.cons (.keep (by simp only [h19, h25]) rfl) ?_ | refine RNs.cons (.tuple' ?_) ?_ | refine RNs.cons (.agg' ?_) ?_)))
        · intro e h; cases h
        · try dsimp only
          repeat (first | (with_reducible first | refine mv ?_ | refine m12 rfl ?_ | refine TO.nil ?_) | ((with_reducible first | apply TO.mv | apply TO.bin | apply TO.asg); (repeat (focus (show _ = _; first | exact k1 rfl | exact k2 rfl | (simp only [zz, y27, e_ii, Nat.reduceAdd, Nat.reduceMul, Nat.reduceLeDiff, Nat.reduceEqDiff, h2m, h2l, h2a, h3m, h3l, h3a, h4m, h4l, h4a, h6m, h6l, h6a, h19] <;> exact rfl) | exact rfl))); (with_reducible refine TO.here ?_)) | ((with_reducible apply TX.region); (focus (simp only [zl] <;> exact rfl)); (focus rfl); (try dsimp only)) | fail)
          cases hr
          refine ⟨rfl, ?_⟩
          exact Wk.ren [some 0] rfl (.rows .nil rfl rfl) (by (repeat (first | exact RNs.nil | refine RNs.cons .junk ?_ | refine RNs.cons (.keep rfl rfl) ?_ | refine RNs.cons (.lsl rfl rfl) ?_ | refine RNs.cons (.lsl rfl (by simp only [List.length_set])) ?_ | refine RNs.cons (.lptr rfl) ?_ | refine RNs.cons (.nil rfl) ?_ | refine RNs.cons .nl ?_ | refine RNs.cons (.keep (by simp only [h19]) rfl) ?_ | refine RNs.cons (.tuple' ?_) ?_ | refine RNs.cons (.agg' ?_) ?_)))
        · try dsimp only
          exact Wk.ren [some 0] rfl (.rows .nil rfl rfl) (by (repeat (first | exact RNs.nil | refine RNs.cons .junk ?_ | refine RNs.cons (.keep rfl rfl) ?_ | refine RNs.cons (.lsl rfl rfl) ?_ | refine RNs.cons (.lsl rfl (by simp only [List.length_set])) ?_ | refine RNs.cons (.lptr rfl) ?_ | refine RNs.cons (.nil rfl) ?_ | refine RNs.cons .nl ?_ | refine RNs.cons (.keep (by simp only [h19]) rfl) ?_ | refine RNs.cons (.tuple' ?_) ?_ | refine RNs.cons (.agg' ?_) ?_)))
      · rw [if_neg (by rw [h19]; exact Bool.false_ne_true)] at hr
        repeat (first | (with_reducible first | refine mv ?_ | refine m12 rfl ?_) | ((with_reducible apply TX.cond_true); (focus rfl); (focus (first | rfl | (simp only [z1, zn, h2m, h2l, h2a, h3m, h3l, h3a, h4m, h4l, h4a, h6m, h6l, h6a, h19]; done)))) | ((with_reducible apply TX.cond_false); (focus rfl); (focus (first | rfl | (simp only [z1, zn, h2m, h2l, h2a, h3m, h3l, h3a, h4m, h4l, h4a, h6m, h6l, h6a, h19]; done)))) | fail)
        cases hr
        refine ⟨rfl, ?_⟩
        exact Wk.ren [some 0] rfl (.rows .nil rfl rfl) (by (repeat (first | exact RNs.nil | refine RNs.cons .junk ?_ | refine RNs.cons (.keep rfl rfl) ?_ | refine RNs.cons (.lsl rfl rfl) ?_ | refine RNs.cons (.lsl rfl (by simp only [List.length_set])) ?_ | refine RNs.cons (.lptr rfl) ?_ | refine RNs.cons (.nil rfl) ?_ | refine RNs.cons .nl ?_ | refine RNs.cons (.keep (by simp only [h19]) rfl) ?_ | refine RNs.cons (.tuple' ?_) ?_ | refine RNs.cons (.agg' ?_) ?_)))
    · intro e h; cases h
    · try dsimp only
      repeat (first | (with_reducible first | refine mv ?_ | refine m12 rfl ?_ | refine TO.nil ?_) | ((with_reducible first | apply TO.mv | apply TO.asg); (repeat (focus (show _ = _; first | exact k1 rfl | exact k2 rfl | (simp only [zz, y27, e_ii, Nat.reduceAdd, Nat.reduceMul, Nat.reduceLeDiff, Nat.reduceEqDiff, h2m, h2l, h2a, h3m, h3l, h3a, h4m, h4l, h4a, h6m, h6l, h6a] <;> exact rfl) | exact rfl))); (with_reducible refine TO.here ?_)) | ((with_reducible apply TX.region); (focus (simp only [zl] <;> exact rfl)); (focus rfl); (try dsimp only)) | fail)
      cases hr
      refine ⟨.inr rfl, _, (by simp only [zy, y27, e_ii, tresAll, tres, tload, rowOf, partT, h2m, h2l, h2a, h3m, h3l, h3a, h4m, h4l, h4a, h6m, h6l, h6a]; exact rfl), ?_⟩
      exact wr [some 0] rfl (.rows .nil rfl rfl)
    · try dsimp only
      exact wr [some 0] rfl (.rows .nil rfl rfl)
  rfl

end Go.Rex

namespace Go.Rex
open Go.Proofs
open Go Go.Rex Go.RowKit
set_option maxRecDepth 100000
def circV : List Value := circT.flatMap fun p => [.int .i64 p.1, .int .i64 p.2]
theorem flat_ii : ∀ l : List (Int × Int), (l.map e_ii).flatten = (l.flatMap fun p => [Value.int .i64 p.1, .int .i64 p.2]).map TV.v
  | [] => rfl
  | p :: t => by simp only [List.map_cons, List.flatten_cons, List.flatMap_cons, List.map_append, flat_ii t]; rfl
theorem follows : Try.prog.follows .mixedOrders = true := by decide +kernel
theorem circ_res : ResOk Try.prog 78 (tabRes 2 circV 1025) := by
  have h := loop_newCircle_spec newCircle_T
  rw [← List.length_map (f := e_ii)] at h
  have := res_of_spec follows h (flat_ii _) (fun v hv => by
    simp only [List.mem_flatMap, List.mem_cons, List.not_mem_nil, or_false] at hv
    obtain ⟨p, _, rfl | rfl⟩ := hv <;> rfl) (fun he => by
    have h1 := congrArg List.length he
    rw [List.length_map, circ_len] at h1
    cases h1)
  rw [List.length_map, circ_len] at this
  exact this
theorem awake_true : AwT Try.prog 9 := awT_of_ecallO follows circ_res (k := 2000) (d := 60) (by decide +kernel)

end Go.Rex

namespace Go.Rex
open Go.Proofs
open Go Go.Rex Go.RowKit
set_option maxRecDepth 100000
set_option maxHeartbeats 4000000
def y28 := an @ag24 <| an @ag59 <| an @ag74 <| an @by74 <| an @cs24 <| an @cs61 <| an @cs74 <| an @fd61_0 <| an @ni73 <| an @ok24 <| an @ok61 <| an @ok74 <| an @so73 <| an @so74 <| an @zc61 <| an @zc74 <| @wi64_0a1
theorem law08_LoopLinesOf_law {v1 : (List (List ((List Int) × Int)))} (hr : law08_LoopLinesOf v1 = some true) {Fz : Nat → Prop} {h : List Blk} {vs : List Value} (hfz : ∀ n, Fz n → n < h.length) (hargs : VLs Fz h noL [.list 1 (v1.map e_LLi_i_)] vs)
    {B lo : Nat} {D : Nat → Prop} {m : NMap} {w : World} {args' : List Value} (hrel : Rel B lo D m h w) (hlo : lo ≤ h.length) (hargs' : VRs D m vs args') : Calls Try.prog 8 ⟨args'⟩ w (fun e w' => e = .returned (.bool true) ∧ Below w.heap.size w w') := by
  unfold law08_LoopLinesOf at hr
  refine law_tex follows awake_true Try.func8 rfl (tm0 := .list 1 (v1.map e_LLi_i_) :: .junk :: .junk :: .junk :: .junk :: .junk :: .junk :: .junk :: .junk :: .junk :: .junk :: .junk :: .junk :: .junk :: .junk :: .junk :: .junk :: .junk :: .junk :: .junk :: .junk :: .junk :: .junk :: .junk :: .junk :: .junk :: .junk :: .junk :: .junk :: .junk :: .junk :: .junk :: .junk :: .junk :: .junk :: .junk :: .junk :: .junk :: .junk :: .junk :: .junk :: .junk :: .junk :: .junk :: .junk :: .junk :: .junk :: .junk :: .junk :: .junk :: .junk :: .junk :: .junk :: .junk :: .junk :: .junk :: .junk :: .junk :: .junk :: .junk :: .junk :: .junk :: .junk :: .junk :: .junk :: .junk :: .junk :: .junk :: .junk :: .junk :: .junk :: .junk :: .junk :: []) (by simp [Try.f8] <;> exact rfl) ?_ hfz hargs hrel hlo hargs'
  repeat (first | (with_reducible first | refine mv ?_ | refine m12 rfl ?_ | refine TO.nil ?_) | ((with_reducible first | apply TO.asg); (repeat (focus (show _ = _; first | exact k1 rfl | exact k2 rfl | (simp only [zz, y28, e_LLi_i_, e_Li_i, e_i, Nat.reduceAdd, Nat.reduceMul, Nat.reduceLeDiff, Nat.reduceEqDiff] <;> exact rfl) | exact rfl))); (with_reducible refine TO.here ?_)) | ((with_reducible apply TX.region); (focus (simp only [zl] <;> exact rfl)); (focus rfl); (try dsimp only)) | fail)
  apply TO.cal (by first | rfl | (simp only [twant, z1, z7] <;> rfl)) rfl goFn9 Spec.awake rfl rfl rfl
  (repeat (focus (show _ = _; first | exact k1 rfl | exact k2 rfl | (simp only [zz, y28, e_LLi_i_, e_Li_i, e_i, Nat.reduceAdd, Nat.reduceMul, Nat.reduceLeDiff, Nat.reduceEqDiff, shift, kill, killB, frz, frzB, view, tml, tmlc, List.length_set] <;> exact rfl) | exact rfl)))
  with_reducible apply TO.here
  repeat (first | (with_reducible first | refine mv ?_ | refine m12 rfl ?_ | refine TO.nil ?_) | ((with_reducible apply TX.region); (focus (simp only [zl] <;> exact rfl)); (focus rfl); (try dsimp only)) | fail)
  apply TO.pop1 (by first | rfl | (simp only [twant, z1, z7] <;> rfl)) (pop_not rfl)
  (repeat (focus (show _ = _; first | exact k1 rfl | exact k2 rfl | (simp only [zz, y28, e_LLi_i_, e_Li_i, e_i, Nat.reduceAdd, Nat.reduceMul, Nat.reduceLeDiff, Nat.reduceEqDiff] <;> exact rfl) | exact rfl)))
  with_reducible apply TO.here
  repeat (first | (with_reducible first | refine mv ?_ | refine m12 rfl ?_ | refine TO.nil ?_) | ((with_reducible first | apply TO.mv | apply TO.len | apply TO.bin); (repeat (focus (show _ = _; first | exact k1 rfl | exact k2 rfl | (simp only [zz, y28, e_LLi_i_, e_Li_i, e_i, Nat.reduceAdd, Nat.reduceMul, Nat.reduceLeDiff, Nat.reduceEqDiff, tlen] <;> exact rfl) | exact rfl))); (with_reducible refine TO.here ?_)) | ((with_reducible apply TX.region); (focus (simp only [zl] <;> exact rfl)); (focus rfl); (try dsimp only)) | ((with_reducible apply TX.cond_true); (focus rfl); (focus (first | rfl | (simp only [z1, zn]; done)))) | ((with_reducible apply TX.cond_false); (focus rfl); (focus (first | rfl | (simp only [z1, zn]; done)))) | fail)
  rcases Bool.eq_false_or_eq_true ((decide ((v1.length : Int) > 6))) with h1 | h1
  · rw [if_pos h1] at hr
    repeat (first | (with_reducible first | refine mv ?_ | refine m12 rfl ?_ | refine TO.nil ?_) | ((with_reducible first | apply TO.asg); (repeat (focus (show _ = _; first | exact k1 rfl | exact k2 rfl | (simp only [zz, y28, e_LLi_i_, e_Li_i, e_i, Nat.reduceAdd, Nat.reduceMul, Nat.reduceLeDiff, Nat.reduceEqDiff, h1] <;> exact rfl) | exact rfl))); (with_reducible refine TO.here ?_)) | ((with_reducible apply TX.region); (focus (simp only [zl] <;> exact rfl)); (focus rfl); (try dsimp only)) | ((with_reducible apply TX.cond_true); (focus rfl); (focus (first | rfl | (simp only [z1, zn, h1]; done)))) | ((with_reducible apply TX.cond_false); (focus rfl); (focus (first | rfl | (simp only [z1, zn, h1]; done)))) | fail)
    have hb := Option.some.inj hr
    first | (cases hb; done) | (refine ⟨.inr rfl, ?_⟩; first | (simp only [tresAll, tres, z1, hb, Option.map_some] <;> exact rfl) | (simp only [h1] at hb; simp only [tresAll, tres, z1, hb, Option.map_some] <;> exact rfl))
  · rw [if_neg (by rw [h1]; exact Bool.false_ne_true)] at hr
    repeat (first | (with_reducible first | refine mv ?_ | refine m12 rfl ?_ | refine TO.nil ?_) | ((with_reducible first | apply TO.asg); (repeat (focus (show _ = _; first | exact k1 rfl | exact k2 rfl | (simp only [zz, y28, e_LLi_i_, e_Li_i, e_i, Nat.reduceAdd, Nat.reduceMul, Nat.reduceLeDiff, Nat.reduceEqDiff, h1] <;> exact rfl) | exact rfl))); (with_reducible refine TO.here ?_)) | ((with_reducible apply TX.region); (focus (simp only [zl] <;> exact rfl)); (focus rfl); (try dsimp only)) | ((with_reducible apply TX.cond_true); (focus rfl); (focus (first | rfl | (simp only [z1, zn, h1]; done)))) | ((with_reducible apply TX.cond_false); (focus rfl); (focus (first | rfl | (simp only [z1, zn, h1]; done)))) | fail)
    apply TX.vt (α := (List ((List Int) × Int))) e_LLi_i_ 3 1 rfl
    (repeat (focus (show _ = _; first | exact k1 rfl | exact k2 rfl | (simp only [zz, y28, e_LLi_i_, e_Li_i, e_i, Nat.reduceAdd, Nat.reduceMul, Nat.reduceLeDiff, Nat.reduceEqDiff, h1] <;> exact rfl) | exact rfl)))
    with_reducible apply TX.here
    repeat (first | (with_reducible first | refine mv ?_ | refine m12 rfl ?_) | fail)
    obtain ⟨v28, h30, hr⟩ := Option.bind_eq_some_iff.1 hr
    refine TX.loopE (step := law08_LoopLinesOf_l1 v1) (x := (([] : List (List ((List Int) × Int))), 0)) h30 (fun (v3, v4) => ⟨.list 1 (v1.map e_LLi_i_) :: .junk :: .junk :: .lsl 0 0 v3.length :: .v (.int .i64 v4) :: .junk :: .junk :: .junk :: .junk :: .junk :: .junk :: .junk :: .junk :: .junk :: .junk :: .junk :: .junk :: .junk :: .junk :: .junk :: .junk :: .junk :: .junk :: .junk :: .junk :: .junk :: .junk :: .junk :: .junk :: .junk :: .junk :: .junk :: .junk :: .junk :: .junk :: .junk :: .junk :: .junk :: .junk :: .junk :: .junk :: .junk :: .junk :: .junk :: .junk :: .junk :: .junk :: .junk :: .junk :: .junk :: .junk :: .junk :: .junk :: .junk :: .junk :: .junk :: .junk :: .junk :: .junk :: .junk :: .junk :: .junk :: .junk :: .junk :: .junk :: .junk :: .junk :: .junk :: .junk :: .junk :: .junk :: .junk :: .junk :: [], [.rows 1 (v3.map e_LLi_i_)]⟩) (fun e => match e with | (.inl _) => (.ret, ⟨.junk :: .junk :: .v (.bool true) :: .junk :: .junk :: .junk :: .junk :: .junk :: .junk :: .junk :: .junk :: .junk :: .junk :: .junk :: .junk :: .junk :: .junk :: .junk :: .junk :: .junk :: .junk :: .junk :: .junk :: .junk :: .junk :: .junk :: .junk :: .junk :: .junk :: .junk :: .junk :: .junk :: .junk :: .junk :: .junk :: .junk :: .junk :: .junk :: .junk :: .junk :: .junk :: .junk :: .junk :: .junk :: .junk :: .junk :: .junk :: .junk :: .junk :: .junk :: .junk :: .junk :: .junk :: .junk :: .junk :: .junk :: .junk :: .junk :: .junk :: .junk :: .junk :: .junk :: .junk :: .junk :: .junk :: .junk :: .junk :: .junk :: .junk :: .junk :: .junk :: .junk :: .junk :: [], []⟩) | (.inr v16) => (.exit 0, ⟨.list 1 (v1.map e_LLi_i_) :: .junk :: .junk :: .lsl 0 0 v16.length :: .junk :: .junk :: .junk :: .junk :: .junk :: .junk :: .junk :: .junk :: .junk :: .junk :: .junk :: .junk :: .junk :: .junk :: .junk :: .junk :: .junk :: .junk :: .junk :: .junk :: .junk :: .junk :: .junk :: .junk :: .junk :: .junk :: .junk :: .junk :: .junk :: .junk :: .junk :: .junk :: .junk :: .junk :: .junk :: .junk :: .junk :: .junk :: .junk :: .junk :: .junk :: .junk :: .junk :: .junk :: .junk :: .junk :: .junk :: .junk :: .junk :: .junk :: .junk :: .junk :: .junk :: .junk :: .junk :: .junk :: .junk :: .junk :: .junk :: .junk :: .junk :: .junk :: .junk :: .junk :: .junk :: .junk :: .junk :: .junk :: .junk :: [], [.rows 1 (v16.map e_LLi_i_)]⟩)) ?_ ?_ ?_ ?_
    · rintro ⟨v3, v4⟩ v0 hr
      dsimp only [law08_LoopLinesOf_l1] at hr
      try dsimp only
      repeat (first | (with_reducible first | refine mv ?_ | refine m12 rfl ?_ | refine TO.nil ?_) | ((with_reducible first | apply TO.mv | apply TO.len | apply TO.bin); (repeat (focus (show _ = _; first | exact k1 rfl | exact k2 rfl | (simp only [zz, y28, e_LLi_i_, e_Li_i, e_i, Nat.reduceAdd, Nat.reduceMul, Nat.reduceLeDiff, Nat.reduceEqDiff, tlen, h1] <;> exact rfl) | exact rfl))); (with_reducible refine TO.here ?_)) | ((with_reducible apply TX.region); (focus (simp only [zl] <;> exact rfl)); (focus rfl); (try dsimp only)) | ((with_reducible apply TX.cond_true); (focus rfl); (focus (first | rfl | (simp only [z1, zn, h1]; done)))) | ((with_reducible apply TX.cond_false); (focus rfl); (focus (first | rfl | (simp only [z1, zn, h1]; done)))) | fail)
      rcases Bool.eq_false_or_eq_true ((decide (v4 < (v1.length : Int)))) with h16 | h16
      · rw [if_pos h16] at hr
        repeat (first | (with_reducible first | refine mv ?_ | refine m12 rfl ?_ | refine TO.nil ?_) | ((with_reducible first | apply TO.mv); (repeat (focus (show _ = _; first | exact k1 rfl | exact k2 rfl | (simp only [zz, y28, e_LLi_i_, e_Li_i, e_i, Nat.reduceAdd, Nat.reduceMul, Nat.reduceLeDiff, Nat.reduceEqDiff, h1, h16] <;> exact rfl) | exact rfl))); (with_reducible refine TO.here ?_)) | ((with_reducible apply TX.region); (focus (simp only [zl] <;> exact rfl)); (focus rfl); (try dsimp only)) | ((with_reducible apply TX.cond_true); (focus rfl); (focus (first | rfl | (simp only [z1, zn, h1, h16]; done)))) | ((with_reducible apply TX.cond_false); (focus rfl); (focus (first | rfl | (simp only [z1, zn, h1, h16]; done)))) | fail)
        obtain ⟨v17, h17, hr⟩ := Option.bind_eq_some_iff.1 hr
        try dsimp only at hr
        have h17m := tidx_map (f := e_LLi_i_) h17
        have h17l := getI_lt h17
        try simp only [List.length_set] at h17l
        have h17a := getI_at h17
        repeat (first | (with_reducible first | refine mv ?_ | refine m12 rfl ?_ | refine TO.nil ?_) | ((with_reducible first | apply TO.ia | apply TO.ld | apply TO.len | apply TO.bin); (repeat (focus (show _ = _; first | exact k1 rfl | exact k2 rfl | (simp only [zz, y28, e_LLi_i_, e_Li_i, e_i, Nat.reduceAdd, Nat.reduceMul, Nat.reduceLeDiff, Nat.reduceEqDiff, tindexAddr, Nat.zero_add, tload, rowOf, partT, List.getElem?_map, tlen, h1, h16, h17m, h17l, h17a] <;> exact rfl) | exact rfl))); (with_reducible refine TO.here ?_)) | ((with_reducible apply TX.region); (focus (simp only [zl] <;> exact rfl)); (focus rfl); (try dsimp only)) | ((with_reducible apply TX.cond_true); (focus rfl); (focus (first | rfl | (simp only [z1, zn, h1, h16, h17m, h17l, h17a]; done)))) | ((with_reducible apply TX.cond_false); (focus rfl); (focus (first | rfl | (simp only [z1, zn, h1, h16, h17m, h17l, h17a]; done)))) | fail)
        rcases Bool.eq_false_or_eq_true ((decide ((v17.length : Int) > 6))) with h18 | h18
        · rw [if_pos h18] at hr
          repeat (first | (with_reducible first | refine mv ?_ | refine m12 rfl ?_ | refine TO.nil ?_) | ((with_reducible first | apply TO.asg); (repeat (focus (show _ = _; first | exact k1 rfl | exact k2 rfl | (simp only [zz, y28, e_LLi_i_, e_Li_i, e_i, Nat.reduceAdd, Nat.reduceMul, Nat.reduceLeDiff, Nat.reduceEqDiff, h1, h16, h17m, h17l, h17a, h18] <;> exact rfl) | exact rfl))); (with_reducible refine TO.here ?_)) | ((with_reducible apply TX.region); (focus (simp only [zl] <;> exact rfl)); (focus rfl); (try dsimp only)) | ((with_reducible apply TX.cond_true); (focus rfl); (focus (first | rfl | (simp only [z1, zn, h1, h16, h17m, h17l, h17a, h18]; done)))) | ((with_reducible apply TX.cond_false); (focus rfl); (focus (first | rfl | (simp only [z1, zn, h1, h16, h17m, h17l, h17a, h18]; done)))) | fail)
          cases hr
          refine ⟨rfl, ?_⟩
          exact Wk.ren [] rfl .nil (by (repeat (first | exact RNs.nil | refine RNs.cons .junk ?_ | refine RNs.cons (.keep rfl rfl) ?_ | refine RNs.cons (.lsl rfl rfl) ?_ | refine RNs.cons (.lsl rfl (by simp only [List.length_set])) ?_ | refine RNs.cons (.lptr rfl) ?_ | refine RNs.cons (.nil rfl) ?_ | refine RNs.cons .nl ?_ | refine RNs.cons (.keep (by simp only [h1, h16, h18]) rfl) ?_ | refine RNs.cons (.tuple' ?_) ?_ | refine RNs.cons (.agg' ?_) ?_)))
        · rw [if_neg (by rw [h18]; exact Bool.false_ne_true)] at hr
          repeat (first | (with_reducible first | refine mv ?_ | refine m12 rfl ?_ | refine TO.nil ?_) | ((with_reducible first | apply TO.asg); (repeat (focus (show _ = _; first | exact k1 rfl | exact k2 rfl | (simp only [zz, y28, e_LLi_i_, e_Li_i, e_i, Nat.reduceAdd, Nat.reduceMul, Nat.reduceLeDiff, Nat.reduceEqDiff, h1, h16, h17m, h17l, h17a, h18] <;> exact rfl) | exact rfl))); (with_reducible refine TO.here ?_)) | ((with_reducible apply TX.region); (focus (simp only [zl] <;> exact rfl)); (focus rfl); (try dsimp only)) | ((with_reducible apply TX.cond_true); (focus rfl); (focus (first | rfl | (simp only [z1, zn, h1, h16, h17m, h17l, h17a, h18]; done)))) | ((with_reducible apply TX.cond_false); (focus rfl); (focus (first | rfl | (simp only [z1, zn, h1, h16, h17m, h17l, h17a, h18]; done)))) | fail)
          obtain ⟨v25, h27, hr⟩ := Option.bind_eq_some_iff.1 hr
          refine TX.loopE (step := law08_LoopLinesOf_l2 v17) (x := 0) h27 (fun v18 => ⟨.list 1 (v1.map e_LLi_i_) :: .junk :: .junk :: .lsl 0 0 v3.length :: .v (.int .i64 v4) :: .v (.int .i64 v18) :: .junk :: .junk :: .junk :: .junk :: .junk :: .junk :: .junk :: .junk :: .junk :: .junk :: .junk :: .junk :: .junk :: .junk :: .junk :: .junk :: .junk :: .junk :: .junk :: .junk :: .junk :: .junk :: .junk :: .junk :: .junk :: .junk :: .junk :: .junk :: .junk :: .junk :: .junk :: .junk :: .junk :: .junk :: .junk :: .junk :: .junk :: .junk :: .junk :: .junk :: .junk :: .junk :: .junk :: .junk :: .junk :: .junk :: .junk :: .junk :: .junk :: .junk :: .junk :: .junk :: .junk :: .junk :: .junk :: .junk :: .junk :: .junk :: .junk :: .junk :: .junk :: .junk :: .junk :: .junk :: .junk :: .junk :: .junk :: [], [.rows 1 (v3.map e_LLi_i_)]⟩) (fun e => match e with | (.inl _) => (.ret, ⟨.junk :: .junk :: .v (.bool true) :: .junk :: .junk :: .junk :: .junk :: .junk :: .junk :: .junk :: .junk :: .junk :: .junk :: .junk :: .junk :: .junk :: .junk :: .junk :: .junk :: .junk :: .junk :: .junk :: .junk :: .junk :: .junk :: .junk :: .junk :: .junk :: .junk :: .junk :: .junk :: .junk :: .junk :: .junk :: .junk :: .junk :: .junk :: .junk :: .junk :: .junk :: .junk :: .junk :: .junk :: .junk :: .junk :: .junk :: .junk :: .junk :: .junk :: .junk :: .junk :: .junk :: .junk :: .junk :: .junk :: .junk :: .junk :: .junk :: .junk :: .junk :: .junk :: .junk :: .junk :: .junk :: .junk :: .junk :: .junk :: .junk :: .junk :: .junk :: .junk :: .junk :: .junk :: [], []⟩) | (.inr _) => (.exit 2, ⟨.list 1 (v1.map e_LLi_i_) :: .junk :: .junk :: .lsl 0 0 v3.length :: .v (.int .i64 v4) :: .junk :: .junk :: .junk :: .junk :: .junk :: .junk :: .junk :: .junk :: .junk :: .junk :: .junk :: .junk :: .junk :: .junk :: .junk :: .junk :: .junk :: .junk :: .junk :: .junk :: .junk :: .junk :: .junk :: .junk :: .junk :: .junk :: .junk :: .junk :: .junk :: .junk :: .junk :: .junk :: .junk :: .junk :: .junk :: .junk :: .junk :: .junk :: .junk :: .junk :: .junk :: .junk :: .junk :: .junk :: .junk :: .junk :: .junk :: .junk :: .junk :: .junk :: .junk :: .junk :: .junk :: .junk :: .junk :: .junk :: .junk :: .junk :: .junk :: .junk :: .junk :: .junk :: .junk :: .junk :: .junk :: .junk :: .junk :: .junk :: [], [.rows 1 (v3.map e_LLi_i_)]⟩)) ?_ ?_ ?_ ?_
          · rintro v18 v0 hr
            dsimp only [law08_LoopLinesOf_l2] at hr
            try dsimp only
            repeat (first | (with_reducible first | refine mv ?_ | refine m12 rfl ?_ | refine TO.nil ?_) | ((with_reducible first | apply TO.mv | apply TO.ia | apply TO.ld | apply TO.len | apply TO.bin); (repeat (focus (show _ = _; first | exact k1 rfl | exact k2 rfl | (simp only [zz, y28, e_LLi_i_, e_Li_i, e_i, Nat.reduceAdd, Nat.reduceMul, Nat.reduceLeDiff, Nat.reduceEqDiff, tindexAddr, Nat.zero_add, tload, rowOf, partT, List.getElem?_map, tlen, h1, h16, h17m, h17l, h17a, h18] <;> exact rfl) | exact rfl))); (with_reducible refine TO.here ?_)) | ((with_reducible apply TX.region); (focus (simp only [zl] <;> exact rfl)); (focus rfl); (try dsimp only)) | ((with_reducible apply TX.cond_true); (focus rfl); (focus (first | rfl | (simp only [z1, zn, h1, h16, h17m, h17l, h17a, h18]; done)))) | ((with_reducible apply TX.cond_false); (focus rfl); (focus (first | rfl | (simp only [z1, zn, h1, h16, h17m, h17l, h17a, h18]; done)))) | fail)
            rcases Bool.eq_false_or_eq_true ((decide (v18 < (v17.length : Int)))) with h23 | h23
            · rw [if_pos h23] at hr
              repeat (first | (with_reducible first | refine mv ?_ | refine m12 rfl ?_ | refine TO.nil ?_) | ((with_reducible first | apply TO.mv | apply TO.ia | apply TO.ld); (repeat (focus (show _ = _; first | exact k1 rfl | exact k2 rfl | (simp only [zz, y28, e_LLi_i_, e_Li_i, e_i, Nat.reduceAdd, Nat.reduceMul, Nat.reduceLeDiff, Nat.reduceEqDiff, tindexAddr, Nat.zero_add, tload, rowOf, partT, List.getElem?_map, h1, h16, h17m, h17l, h17a, h18, h23] <;> exact rfl) | exact rfl))); (with_reducible refine TO.here ?_)) | ((with_reducible apply TX.region); (focus (simp only [zl] <;> exact rfl)); (focus rfl); (try dsimp only)) | ((with_reducible apply TX.cond_true); (focus rfl); (focus (first | rfl | (simp only [z1, zn, h1, h16, h17m, h17l, h17a, h18, h23]; done)))) | ((with_reducible apply TX.cond_false); (focus rfl); (focus (first | rfl | (simp only [z1, zn, h1, h16, h17m, h17l, h17a, h18, h23]; done)))) | fail)
              obtain ⟨⟨v22, v23⟩, h24, hr⟩ := Option.bind_eq_some_iff.1 hr
              try dsimp only at hr
              have h24m := tidx_map (f := e_Li_i) h24
              have h24l := getI_lt h24
              try simp only [List.length_set] at h24l
              have h24a := getI_at h24
              repeat (first | (with_reducible first | refine mv ?_ | refine m12 rfl ?_ | refine TO.nil ?_) | ((with_reducible first | apply TO.ia | apply TO.ld); (repeat (focus (show _ = _; first | exact k1 rfl | exact k2 rfl | (simp only [zz, y28, e_LLi_i_, e_Li_i, e_i, Nat.reduceAdd, Nat.reduceMul, Nat.reduceLeDiff, Nat.reduceEqDiff, tindexAddr, Nat.zero_add, tload, rowOf, partT, List.getElem?_map, h1, h16, h17m, h17l, h17a, h18, h23, h24m, h24l, h24a] <;> exact rfl) | exact rfl))); (with_reducible refine TO.here ?_)) | ((with_reducible apply TX.region); (focus (simp only [zl] <;> exact rfl)); (focus rfl); (try dsimp only)) | fail)
              obtain ⟨v24, h25, hr⟩ := Option.bind_eq_some_iff.1 hr
              try dsimp only at hr
              apply TO.cal (by first | rfl | (simp only [twant, z1, z7, h1, h16, h17m, h17l, h17a, h18, h23, h24m, h24l, h24a] <;> rfl)) rfl goFn16 (Spec.ov (law08_few_spec h25) (by decide)) rfl rfl rfl
              (repeat (focus (show _ = _; first | exact k1 rfl | exact k2 rfl | (simp only [zz, y28, e_LLi_i_, e_Li_i, e_i, Nat.reduceAdd, Nat.reduceMul, Nat.reduceLeDiff, Nat.reduceEqDiff, shift, kill, killB, frz, frzB, view, tml, tmlc, List.length_set, h1, h16, h17m, h17l, h17a, h18, h23, h24m, h24l, h24a] <;> exact rfl) | exact rfl)))
              with_reducible apply TO.here
              repeat (first | (with_reducible first | refine mv ?_ | refine m12 rfl ?_ | refine TO.nil ?_) | ((with_reducible apply TX.region); (focus (simp only [zl] <;> exact rfl)); (focus rfl); (try dsimp only)) | fail)
              apply TO.pop1 (by first | rfl | (simp only [twant, z1, z7, h1, h16, h17m, h17l, h17a, h18, h23, h24m, h24l, h24a] <;> rfl)) (pop_not rfl)
              (repeat (focus (show _ = _; first | exact k1 rfl | exact k2 rfl | (simp only [zz, y28, e_LLi_i_, e_Li_i, e_i, Nat.reduceAdd, Nat.reduceMul, Nat.reduceLeDiff, Nat.reduceEqDiff, h1, h16, h17m, h17l, h17a, h18, h23, h24m, h24l, h24a] <;> exact rfl) | exact rfl)))
              with_reducible apply TO.here
              repeat (first | (with_reducible first | refine mv ?_ | refine m12 rfl ?_ | refine TO.nil ?_) | ((with_reducible apply TX.region); (focus (simp only [zl] <;> exact rfl)); (focus rfl); (try dsimp only)) | ((with_reducible apply TX.cond_true); (focus rfl); (focus (first | rfl | (simp only [z1, zn, h1, h16, h17m, h17l, h17a, h18, h23, h24m, h24l, h24a]; done)))) | ((with_reducible apply TX.cond_false); (focus rfl); (focus (first | rfl | (simp only [z1, zn, h1, h16, h17m, h17l, h17a, h18, h23, h24m, h24l, h24a]; done)))) | fail)
              rcases Bool.eq_false_or_eq_true (v24) with h26 | h26
              · rw [if_pos h26] at hr
                repeat (first | (with_reducible first | refine mv ?_ | refine m12 rfl ?_ | refine TO.nil ?_) | ((with_reducible first | apply TO.mv | apply TO.bin | apply TO.asg); (repeat (focus (show _ = _; first | exact k1 rfl | exact k2 rfl | (simp only [zz, y28, e_LLi_i_, e_Li_i, e_i, Nat.reduceAdd, Nat.reduceMul, Nat.reduceLeDiff, Nat.reduceEqDiff, h1, h16, h17m, h17l, h17a, h18, h23, h24m, h24l, h24a, h26] <;> exact rfl) | exact rfl))); (with_reducible refine TO.here ?_)) | ((with_reducible apply TX.region); (focus (simp only [zl] <;> exact rfl)); (focus rfl); (try dsimp only)) | ((with_reducible apply TX.cond_true); (focus rfl); (focus (first | rfl | (simp only [z1, zn, h1, h16, h17m, h17l, h17a, h18, h23, h24m, h24l, h24a, h26]; done)))) | ((with_reducible apply TX.cond_false); (focus rfl); (focus (first | rfl | (simp only [z1, zn, h1, h16, h17m, h17l, h17a, h18, h23, h24m, h24l, h24a, h26]; done)))) | fail)
                cases hr
                refine ⟨rfl, ?_⟩
                exact Wk.ren [some 0] rfl (.rows .nil rfl rfl) (by (repeat (first | exact RNs.nil | refine RNs.cons .junk ?_ | refine RNs.cons (.keep rfl rfl) ?_ | refine RNs.cons (.lsl rfl rfl) ?_ | refine RNs.cons (.lsl rfl (by simp only [List.length_set])) ?_ | refine RNs.cons (.lptr rfl) ?_ | refine RNs.cons (.nil rfl) ?_ | refine RNs.cons .nl ?_ | refine RNs.cons (.keep (by simp only [h1, h16, h18, h23, h26]) rfl) ?_ | refine RNs.cons (.tuple' ?_) ?_ | refine RNs.cons (.agg' ?_) ?_)))
              · rw [if_neg (by rw [h26]; exact Bool.false_ne_true)] at hr
                repeat (first | (with_reducible first | refine mv ?_ | refine m12 rfl ?_ | refine TO.nil ?_) | ((with_reducible first | apply TO.asg); (repeat (focus (show _ = _; first | exact k1 rfl | exact k2 rfl | (simp only [zz, y28, e_LLi_i_, e_Li_i, e_i, Nat.reduceAdd, Nat.reduceMul, Nat.reduceLeDiff, Nat.reduceEqDiff, h1, h16, h17m, h17l, h17a, h18, h23, h24m, h24l, h24a, h26] <;> exact rfl) | exact rfl))); (with_reducible refine TO.here ?_)) | ((with_reducible apply TX.region); (focus (simp only [zl] <;> exact rfl)); (focus rfl); (try dsimp only)) | ((with_reducible apply TX.cond_true); (focus rfl); (focus (first | rfl | (simp only [z1, zn, h1, h16, h17m, h17l, h17a, h18, h23, h24m, h24l, h24a, h26]; done)))) | ((with_reducible apply TX.cond_false); (focus rfl); (focus (first | rfl | (simp only [z1, zn, h1, h16, h17m, h17l, h17a, h18, h23, h24m, h24l, h24a, h26]; done)))) | fail)
                cases hr
                refine ⟨rfl, ?_⟩
                exact Wk.ren [] rfl .nil (by (repeat (first | exact RNs.nil | refine RNs.cons .junk ?_ | refine RNs.cons (.keep rfl rfl) ?_ | refine RNs.cons (.lsl rfl rfl) ?_ | refine RNs.cons (.lsl rfl (by simp only [List.length_set])) ?_ | refine RNs.cons (.lptr rfl) ?_ | refine RNs.cons (.nil rfl) ?_ | refine RNs.cons .nl ?_ | refine RNs.cons (.keep (by simp only [h1, h16, h18, h23, h26]) rfl) ?_ | refine RNs.cons (.tuple' ?_) ?_ | refine RNs.cons (.agg' ?_) ?_)))
            · rw [if_neg (by rw [h23]; exact Bool.false_ne_true)] at hr
              repeat (first | (with_reducible first | refine mv ?_ | refine m12 rfl ?_) | ((with_reducible apply TX.cond_true); (focus rfl); (focus (first | rfl | (simp only [z1, zn, h1, h16, h17m, h17l, h17a, h18, h23]; done)))) | ((with_reducible apply TX.cond_false); (focus rfl); (focus (first | rfl | (simp only [z1, zn, h1, h16, h17m, h17l, h17a, h18, h23]; done)))) | fail)
              cases hr
              refine ⟨rfl, ?_⟩
              exact Wk.ren [some 0] rfl (.rows .nil rfl rfl) (by (repeat (first | exact RNs.nil | refine RNs.cons .junk ?_ | refine RNs.cons (.keep rfl rfl) ?_ | refine RNs.cons (.lsl rfl rfl) ?_ | refine RNs.cons (.lsl rfl (by simp only [List.length_set])) ?_ | refine RNs.cons (.lptr rfl) ?_ | refine RNs.cons (.nil rfl) ?_ | refine RNs.cons .nl ?_ | refine RNs.cons (.keep (by simp only [h1, h16, h18, h23]) rfl) ?_ | refine RNs.cons (.tuple' ?_) ?_ | refine RNs.cons (.agg' ?_) ?_)))
          · intro e h; rcases e with _ | e <;> cases h
          · try dsimp only
            rcases v25 with _ | _
            · try dsimp only at hr
              try dsimp only
              repeat (first | (with_reducible first | refine mv ?_ | refine m12 rfl ?_) | fail)
              cases hr
              refine ⟨rfl, ?_⟩
              exact Wk.ren [] rfl .nil (by (repeat (first | exact RNs.nil | refine RNs.cons .junk ?_ | refine RNs.cons (.keep rfl rfl) ?_ | refine RNs.cons (.lsl rfl rfl) ?_ | refine RNs.cons (.lsl rfl (by simp only [List.length_set])) ?_ | refine RNs.cons (.lptr rfl) ?_ | refine RNs.cons (.nil rfl) ?_ | refine RNs.cons .nl ?_ | refine RNs.cons (.keep (by simp only [h1, h16, h18]) rfl) ?_ | refine RNs.cons (.tuple' ?_) ?_ | refine RNs.cons (.agg' ?_) ?_)))
            · try dsimp only at hr
              try dsimp only
              repeat (first | (with_reducible first | refine mv ?_ | refine m12 rfl ?_ | refine TO.nil ?_) | ((with_reducible first | apply TO.mv | apply TO.ia | apply TO.ld); (repeat (focus (show _ = _; first | exact k1 rfl | exact k2 rfl | (simp only [zz, y28, e_LLi_i_, e_Li_i, e_i, Nat.reduceAdd, Nat.reduceMul, Nat.reduceLeDiff, Nat.reduceEqDiff, tindexAddr, Nat.zero_add, tload, rowOf, partT, List.getElem?_map, h1, h16, h17m, h17l, h17a, h18] <;> exact rfl) | exact rfl))); (with_reducible refine TO.here ?_)) | ((with_reducible apply TX.region); (focus (simp only [zl] <;> exact rfl)); (focus rfl); (try dsimp only)) | fail)
              obtain ⟨v26, h28, hr⟩ := Option.bind_eq_some_iff.1 hr
              try dsimp only at hr
              apply TO.cal (by first | rfl | (simp only [twant, z1, z7, h1, h16, h17m, h17l, h17a, h18] <;> rfl)) rfl goFn39 (Spec.ov (ref08_CopyAll_spec h28) (by decide)) rfl rfl rfl
              (repeat (focus (show _ = _; first | exact k1 rfl | exact k2 rfl | (simp only [zz, y28, e_LLi_i_, e_Li_i, e_i, Nat.reduceAdd, Nat.reduceMul, Nat.reduceLeDiff, Nat.reduceEqDiff, shift, kill, killB, frz, frzB, view, tml, tmlc, List.length_set, h1, h16, h17m, h17l, h17a, h18] <;> exact rfl) | exact rfl)))
              with_reducible apply TO.here
              repeat (first | (with_reducible first | refine mv ?_ | refine m12 rfl ?_ | refine TO.nil ?_) | ((with_reducible apply TX.region); (focus (simp only [zl] <;> exact rfl)); (focus rfl); (try dsimp only)) | fail)
              apply TO.frz 1 rfl rfl
              (repeat (focus (show _ = _; first | exact k1 rfl | exact k2 rfl | (simp only [zz, y28, e_LLi_i_, e_Li_i, e_i, Nat.reduceAdd, Nat.reduceMul, Nat.reduceLeDiff, Nat.reduceEqDiff, shift, kill, killB, frz, frzB, view, tml, tmlc, List.length_set, h1, h16, h17m, h17l, h17a, h18] <;> exact rfl) | exact rfl)))
              with_reducible apply TO.here
              repeat (first | (with_reducible first | refine mv ?_ | refine m12 rfl ?_ | refine TO.nil ?_) | ((with_reducible apply TX.region); (focus (simp only [zl] <;> exact rfl)); (focus rfl); (try dsimp only)) | fail)
              apply TO.bm e_LLi_i_ ([v26] : List (List ((List Int) × Int))) (by first | rfl | (simp only [twant, z1, z7, h1, h16, h17m, h17l, h17a, h18] <;> rfl)) rfl (by simp only [zz, y28, e_LLi_i_, e_Li_i, e_i, Nat.reduceAdd, Nat.reduceMul, Nat.reduceLeDiff, Nat.reduceEqDiff, tslice, tparts, h1, h16, h17m, h17l, h17a, h18]; exact rfl) rfl
              (repeat (focus (show _ = _; first | exact k1 rfl | exact k2 rfl | (simp only [zz, y28, e_LLi_i_, e_Li_i, e_i, Nat.reduceAdd, Nat.reduceMul, Nat.reduceLeDiff, Nat.reduceEqDiff, tslice, tparts, h1, h16, h17m, h17l, h17a, h18] <;> exact rfl) | exact rfl)))
              with_reducible apply TO.here
              repeat (first | (with_reducible first | refine mv ?_ | refine m12 rfl ?_ | refine TO.nil ?_) | ((with_reducible apply TX.region); (focus (simp only [zl] <;> exact rfl)); (focus rfl); (try dsimp only)) | fail)
              obtain ⟨v27, h29, hr⟩ := Option.bind_eq_some_iff.1 hr
              try dsimp only at hr
              apply TO.ap (f := e_LLi_i_) (xs := v3) (ys := ([v26] : List (List ((List Int) × Int)))) (by first | rfl | (simp only [twant, z1, z7, h1, h16, h17m, h17l, h17a, h18] <;> rfl)) rfl rfl (by first | rfl | simp only [List.length_set]) rfl rfl so73 ni73 zc74 rfl (by rw [by74]; exact h29) (fun _ => ⟨rfl, rfl, rfl⟩)
              (repeat (focus (show _ = _; first | exact k1 rfl | exact k2 rfl | (simp only [zz, y28, e_LLi_i_, e_Li_i, e_i, Nat.reduceAdd, Nat.reduceMul, Nat.reduceLeDiff, Nat.reduceEqDiff, shift, kill, killB, frz, frzB, view, tml, tmlc, List.length_set, h1, h16, h17m, h17l, h17a, h18] <;> exact rfl) | exact rfl)))
              with_reducible apply TO.here
              repeat (first | (with_reducible first | refine mv ?_ | refine m12 rfl ?_ | refine TO.nil ?_) | ((with_reducible first | apply TO.asg | apply TO.mv | apply TO.bin); (repeat (focus (show _ = _; first | exact k1 rfl | exact k2 rfl | (simp only [zz, y28, e_LLi_i_, e_Li_i, e_i, Nat.reduceAdd, Nat.reduceMul, Nat.reduceLeDiff, Nat.reduceEqDiff, h1, h16, h17m, h17l, h17a, h18] <;> exact rfl) | exact rfl))); (with_reducible refine TO.here ?_)) | ((with_reducible apply TX.region); (focus (simp only [zl] <;> exact rfl)); (focus rfl); (try dsimp only)) | fail)
              cases hr
              refine ⟨rfl, ?_⟩
              exact Wk.ren [some 0] rfl (.rows .nil rfl rfl) (by (repeat (first | exact RNs.nil | refine RNs.cons .junk ?_ | refine RNs.cons (.keep rfl rfl) ?_ | refine RNs.cons (.lsl rfl rfl) ?_ | refine RNs.cons (.lsl rfl (by simp only [List.length_set])) ?_ | refine RNs.cons (.lptr rfl) ?_ | refine RNs.cons (.nil rfl) ?_ | refine RNs.cons .nl ?_ | refine RNs.cons (.keep (by simp only [h1, h16, h18]) rfl) ?_ | refine RNs.cons (.tuple' ?_) ?_ | refine RNs.cons (.agg' ?_) ?_)))
          · try dsimp only
            exact Wk.ren [some 0] rfl (.rows .nil rfl rfl) (by (repeat (first | exact RNs.nil | refine RNs.cons .junk ?_ | refine RNs.cons (.keep rfl rfl) ?_ | refine RNs.cons (.lsl rfl rfl) ?_ | refine RNs.cons (.lsl rfl (by simp only [List.length_set])) ?_ | refine RNs.cons (.lptr rfl) ?_ | refine RNs.cons (.nil rfl) ?_ | refine RNs.cons .nl ?_ | refine RNs.cons (.keep (by simp only [h1, h16, h18]) rfl) ?_ | refine RNs.cons (.tuple' ?_) ?_ | refine RNs.cons (.agg' ?_) ?_)))
      · rw [if_neg (by rw [h16]; exact Bool.false_ne_true)] at hr
        repeat (first | (with_reducible first | refine mv ?_ | refine m12 rfl ?_) | ((with_reducible apply TX.cond_true); (focus rfl); (focus (first | rfl | (simp only [z1, zn, h1, h16]; done)))) | ((with_reducible apply TX.cond_false); (focus rfl); (focus (first | rfl | (simp only [z1, zn, h1, h16]; done)))) | fail)
        cases hr
        refine ⟨rfl, ?_⟩
        exact Wk.ren [some 0] rfl (.rows .nil rfl rfl) (by (repeat (first | exact RNs.nil | refine RNs.cons .junk ?_ | refine RNs.cons (.keep rfl rfl) ?_ | refine RNs.cons (.lsl rfl rfl) ?_ | refine RNs.cons (.lsl rfl (by simp only [List.length_set])) ?_ | refine RNs.cons (.lptr rfl) ?_ | refine RNs.cons (.nil rfl) ?_ | refine RNs.cons .nl ?_ | refine RNs.cons (.keep (by simp only [h1, h16]) rfl) ?_ | refine RNs.cons (.tuple' ?_) ?_ | refine RNs.cons (.agg' ?_) ?_)))
    · intro e h; rcases e with _ | e <;> cases h
    · try dsimp only
      rcases v28 with _ | v29
      · try dsimp only at hr
        try dsimp only
        repeat (first | (with_reducible first | refine mv ?_ | refine m12 rfl ?_) | fail)
        have hb := Option.some.inj hr
        first | (cases hb; done) | (refine ⟨.inr rfl, ?_⟩; first | (simp only [tresAll, tres, z1, hb, Option.map_some] <;> exact rfl) | (simp only [h1] at hb; simp only [tresAll, tres, z1, hb, Option.map_some] <;> exact rfl))
      · try dsimp only at hr
        try dsimp only
        repeat (first | (with_reducible first | refine mv ?_ | refine m12 rfl ?_ | refine TO.nil ?_) | ((with_reducible first | apply TO.mv); (repeat (focus (show _ = _; first | exact k1 rfl | exact k2 rfl | (simp only [zz, y28, e_LLi_i_, e_Li_i, e_i, Nat.reduceAdd, Nat.reduceMul, Nat.reduceLeDiff, Nat.reduceEqDiff, h1] <;> exact rfl) | exact rfl))); (with_reducible refine TO.here ?_)) | ((with_reducible apply TX.region); (focus (simp only [zl] <;> exact rfl)); (focus rfl); (try dsimp only)) | fail)
        apply TO.frz 0 rfl rfl
        (repeat (focus (show _ = _; first | exact k1 rfl | exact k2 rfl | (simp only [zz, y28, e_LLi_i_, e_Li_i, e_i, Nat.reduceAdd, Nat.reduceMul, Nat.reduceLeDiff, Nat.reduceEqDiff, shift, kill, killB, frz, frzB, view, tml, tmlc, List.length_set, h1] <;> exact rfl) | exact rfl)))
        with_reducible apply TO.here
        repeat (first | (with_reducible first | refine mv ?_ | refine m12 rfl ?_ | refine TO.nil ?_) | ((with_reducible apply TX.region); (focus (simp only [zl] <;> exact rfl)); (focus rfl); (try dsimp only)) | fail)
        obtain ⟨⟨v32, v33⟩, h32, hr⟩ := Option.bind_eq_some_iff.1 hr
        try dsimp only at hr
        apply TO.cal (by first | rfl | (simp only [twant, z1, z7, h1] <;> rfl)) rfl goFn40 (Spec.ov (loop_LinesOf_spec h32) (by decide)) rfl rfl rfl
        (repeat (focus (show _ = _; first | exact k1 rfl | exact k2 rfl | (simp only [zz, y28, e_LLi_i_, e_Li_i, e_i, Nat.reduceAdd, Nat.reduceMul, Nat.reduceLeDiff, Nat.reduceEqDiff, shift, kill, killB, frz, frzB, view, tml, tmlc, List.length_set, h1] <;> exact rfl) | exact rfl)))
        with_reducible apply TO.here
        repeat (first | (with_reducible first | refine mv ?_ | refine m12 rfl ?_ | refine TO.nil ?_) | ((with_reducible first | apply TO.mv | apply TO.ext | apply TO.al | apply TO.sv | apply TO.asg); (repeat (focus (show _ = _; first | exact k1 rfl | exact k2 rfl | (simp only [zz, y28, e_LLi_i_, e_Li_i, e_i, Nat.reduceAdd, Nat.reduceMul, Nat.reduceLeDiff, Nat.reduceEqDiff, h1] <;> exact rfl) | exact rfl))); (with_reducible refine TO.here ?_)) | ((with_reducible apply TX.region); (focus (simp only [zl] <;> exact rfl)); (focus rfl); (try dsimp only)) | fail)
        obtain ⟨⟨v34, v35⟩, h33, hr⟩ := Option.bind_eq_some_iff.1 hr
        try dsimp only at hr
        apply TO.cal (by first | rfl | (simp only [twant, z1, z7, h1] <;> rfl)) rfl goFn41 (Spec.ov (ref08_LinesOf_spec h33) (by decide)) rfl rfl rfl
        (repeat (focus (show _ = _; first | exact k1 rfl | exact k2 rfl | (simp only [zz, y28, e_LLi_i_, e_Li_i, e_i, Nat.reduceAdd, Nat.reduceMul, Nat.reduceLeDiff, Nat.reduceEqDiff, shift, kill, killB, frz, frzB, view, tml, tmlc, List.length_set, h1] <;> exact rfl) | exact rfl)))
        with_reducible apply TO.here
        repeat (first | (with_reducible first | refine mv ?_ | refine m12 rfl ?_ | refine TO.nil ?_) | ((with_reducible first | apply TO.mv | apply TO.ext | apply TO.al | apply TO.sv | apply TO.asg | apply TO.bin); (repeat (focus (show _ = _; first | exact k1 rfl | exact k2 rfl | (simp only [zz, y28, e_LLi_i_, e_Li_i, e_i, Nat.reduceAdd, Nat.reduceMul, Nat.reduceLeDiff, Nat.reduceEqDiff, h1] <;> exact rfl) | exact rfl))); (with_reducible refine TO.here ?_)) | ((with_reducible apply TX.region); (focus (simp only [zl] <;> exact rfl)); (focus rfl); (try dsimp only)) | fail)
        rcases Bool.eq_false_or_eq_true ((decide (v33 = v35))) with h34 | h34
        · rw [if_pos h34] at hr
          repeat (first | (with_reducible first | refine mv ?_ | refine m12 rfl ?_ | refine TO.nil ?_) | ((with_reducible first | apply TO.fa | apply TO.ld); (repeat (focus (show _ = _; first | exact k1 rfl | exact k2 rfl | (simp only [zz, y28, e_LLi_i_, e_Li_i, e_i, Nat.reduceAdd, Nat.reduceMul, Nat.reduceLeDiff, Nat.reduceEqDiff, tfieldAddr, tload, rowOf, partT, List.getElem?_map, h1, h34] <;> exact rfl) | exact rfl))); (with_reducible refine TO.here ?_)) | ((with_reducible apply TX.region); (focus (simp only [zl] <;> exact rfl)); (focus rfl); (try dsimp only)) | fail)
          obtain ⟨v36, h35, hr⟩ := Option.bind_eq_some_iff.1 hr
          try dsimp only at hr
          apply TO.lok (by first | rfl | (simp only [twant, z1, z7, h1, h34] <;> rfl)) rfl goFn42 (Spec.ov (base_Lists_spec h35) (by decide)) (by simp only [view, z1, z3, zl, tml, tmlc, List.length_set, Nat.reduceEqDiff, if_false] <;> rfl) rfl rfl (by simp [clTB, cl, e_ii, e_i, e_Li_i, e_LLi_i_, e_Li_])
          (repeat (focus (show _ = _; first | exact k1 rfl | exact k2 rfl | (simp only [zz, y28, e_LLi_i_, e_Li_i, e_i, Nat.reduceAdd, Nat.reduceMul, Nat.reduceLeDiff, Nat.reduceEqDiff, shift, kill, killB, frz, frzB, view, tml, tmlc, List.length_set, h1, h34] <;> exact rfl) | exact rfl)))
          with_reducible apply TO.here
          repeat (first | (with_reducible first | refine mv ?_ | refine m12 rfl ?_ | refine TO.nil ?_) | ((with_reducible first | apply TO.pk | apply TO.asg); (repeat (focus (show _ = _; first | exact k1 rfl | exact k2 rfl | (simp only [zz, y28, e_LLi_i_, e_Li_i, e_i, Nat.reduceAdd, Nat.reduceMul, Nat.reduceLeDiff, Nat.reduceEqDiff, h1, h34] <;> exact rfl) | exact rfl))); (with_reducible refine TO.here ?_)) | ((with_reducible apply TX.region); (focus (simp only [zl] <;> exact rfl)); (focus rfl); (try dsimp only)) | fail)
          have hb := Option.some.inj hr
          first | (cases hb; done) | (refine ⟨.inr rfl, ?_⟩; first | (simp only [tresAll, tres, z1, hb, Option.map_some] <;> exact rfl) | (simp only [h1, h34] at hb; simp only [tresAll, tres, z1, hb, Option.map_some] <;> exact rfl))
        · rw [if_neg (by rw [h34]; exact Bool.false_ne_true)] at hr
          repeat (first | (with_reducible first | refine mv ?_ | refine m12 rfl ?_ | refine TO.nil ?_) | ((with_reducible first | apply TO.pk | apply TO.asg); (repeat (focus (show _ = _; first | exact k1 rfl | exact k2 rfl | (simp only [zz, y28, e_LLi_i_, e_Li_i, e_i, Nat.reduceAdd, Nat.reduceMul, Nat.reduceLeDiff, Nat.reduceEqDiff, h1, h34] <;> exact rfl) | exact rfl))); (with_reducible refine TO.here ?_)) | ((with_reducible apply TO.skip1); (repeat (focus (show _ = _; first | exact k1 rfl | exact k2 rfl | (simp only [zz, y28, e_LLi_i_, e_Li_i, e_i, Nat.reduceAdd, Nat.reduceMul, Nat.reduceLeDiff, Nat.reduceEqDiff, twant, zp, zs, h1, h34] <;> exact rfl) | exact rfl))); (with_reducible refine TO.here ?_)) | ((with_reducible apply TX.region); (focus (simp only [zl] <;> exact rfl)); (focus rfl); (try dsimp only)) | fail)
          have hb := Option.some.inj hr
          first | (cases hb; done) | (refine ⟨.inr rfl, ?_⟩; first | (simp only [tresAll, tres, z1, hb, Option.map_some] <;> exact rfl) | (simp only [h1, h34] at hb; simp only [tresAll, tres, z1, hb, Option.map_some] <;> exact rfl))
    · try dsimp only
      exact Wk.ren [some 0] rfl (.rows .nil rfl rfl) (by (repeat (first | exact RNs.nil | refine RNs.cons .junk ?_ | refine RNs.cons (.keep rfl rfl) ?_ | refine RNs.cons (.lsl rfl rfl) ?_ | refine RNs.cons (.lsl rfl (by simp only [List.length_set])) ?_ | refine RNs.cons (.lptr rfl) ?_ | refine RNs.cons (.nil rfl) ?_ | refine RNs.cons .nl ?_ | refine RNs.cons (.keep (by simp only [h1]) rfl) ?_ | refine RNs.cons (.tuple' ?_) ?_ | refine RNs.cons (.agg' ?_) ?_)))

end Go.Rex
