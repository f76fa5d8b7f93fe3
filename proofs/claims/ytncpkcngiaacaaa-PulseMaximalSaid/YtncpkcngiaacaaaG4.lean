/- Proofs that the program's functions do what these plain functions say. -/
import Derived.Test.YtncpkcngiaacaaaGB
import Derived.Test.YtncpkcngiaacaaaS
import Derived.Test.YtncpkcngiaacaaaG3
set_option linter.unusedSimpArgs false
set_option linter.unusedVariables false
set_option linter.defProp false
namespace Go.Rex
open Go.Proofs
open Go Go.Rex Go.RowKit
set_option maxRecDepth 100000
def y36 := an @ag3 <| an @fd24_0 <| an @wi64_0a1 <| @wi64_2m1
theorem ref04_Most_037b_spec {v1 : Int} {v2 : Int} (hr : ref04_Most_037b v1 = some (v2)) : Spec (lim Try.prog) 35 [.agg [.v (.int .i64 v1), .v (.slice none 0 0)]] ⟨[.v (.int .i64 v2)], []⟩ := by
  unfold ref04_Most_037b at hr
  apply Spec.fn Try.func35 rfl
  focus (simp [Try.f35] <;> exact rfl)
  focus
    repeat (first | (with_reducible first | refine mv ?_ | refine m12 rfl ?_ | refine TO.nil ?_) | ((with_reducible first | apply TO.bf | apply TO.asg); (repeat (focus (show _ = _; first | exact k1 rfl | exact k2 rfl | (simp only [zz, y36, Nat.reduceAdd, Nat.reduceMul, Nat.reduceLeDiff, Nat.reduceEqDiff] <;> exact rfl) | exact rfl))); (with_reducible refine TO.here ?_)) | ((with_reducible apply TX.region); (focus (simp only [zl] <;> exact rfl)); (focus rfl); (try dsimp only)) | fail)
    obtain ⟨v6, h3, hr⟩ := Option.bind_eq_some_iff.1 hr
    try dsimp only at hr
    refine TX.loopE (step := ref04_Most_037b_l1 v1) (x := (1, 0)) h3 (fun (v3, v4) => ⟨.junk :: .fptr true [.v (.int .i64 v1), .v (.slice none 0 0)] 0 :: .junk :: .v (.int .i64 v3) :: .v (.int .i64 v4) :: .junk :: .junk :: .junk :: .junk :: .junk :: .junk :: .junk :: .junk :: .junk :: .junk :: [], []⟩) (fun v5 => (.exit 0, ⟨.junk :: .junk :: .junk :: .v (.int .i64 v5) :: .junk :: .junk :: .junk :: .junk :: .junk :: .junk :: .junk :: .junk :: .junk :: .junk :: .junk :: [], []⟩)) ?_ ?_ ?_ ?_
    · rintro ⟨v3, v4⟩ v0 hr
      dsimp only [ref04_Most_037b_l1] at hr
      try dsimp only
      repeat (first | (with_reducible first | refine mv ?_ | refine m12 rfl ?_ | refine TO.nil ?_) | ((with_reducible first | apply TO.mv | apply TO.fa | apply TO.ld | apply TO.bin); (repeat (focus (show _ = _; first | exact k1 rfl | exact k2 rfl | (simp only [zz, y36, Nat.reduceAdd, Nat.reduceMul, Nat.reduceLeDiff, Nat.reduceEqDiff, tfieldAddr, tload, rowOf, partT, List.getElem?_map] <;> exact rfl) | exact rfl))); (with_reducible refine TO.here ?_)) | ((with_reducible apply TX.region); (focus (simp only [zl] <;> exact rfl)); (focus rfl); (try dsimp only)) | ((with_reducible apply TX.cond_true); (focus rfl); (focus (first | rfl | (simp only [z1, zn]; done)))) | ((with_reducible apply TX.cond_false); (focus rfl); (focus (first | rfl | (simp only [z1, zn]; done)))) | fail)
      rcases Bool.eq_false_or_eq_true ((decide (v4 < v1))) with h2 | h2
      · rw [if_pos h2] at hr
        repeat (first | (with_reducible first | refine mv ?_ | refine m12 rfl ?_ | refine TO.nil ?_) | ((with_reducible first | apply TO.mv | apply TO.bin | apply TO.asg); (repeat (focus (show _ = _; first | exact k1 rfl | exact k2 rfl | (simp only [zz, y36, Nat.reduceAdd, Nat.reduceMul, Nat.reduceLeDiff, Nat.reduceEqDiff, h2] <;> exact rfl) | exact rfl))); (with_reducible refine TO.here ?_)) | ((with_reducible apply TX.region); (focus (simp only [zl] <;> exact rfl)); (focus rfl); (try dsimp only)) | ((with_reducible apply TX.cond_true); (focus rfl); (focus (first | rfl | (simp only [z1, zn, h2]; done)))) | ((with_reducible apply TX.cond_false); (focus rfl); (focus (first | rfl | (simp only [z1, zn, h2]; done)))) | fail)
        cases hr
        refine ⟨rfl, ?_⟩
        exact Wk.ren [] rfl .nil (by (repeat (first | exact RNs.nil | refine RNs.cons .junk ?_ | refine RNs.cons (.keep rfl rfl) ?_ | refine RNs.cons (.lsl rfl rfl) ?_ | refine RNs.cons (.lsl rfl (by simp only [List.length_set])) ?_ | refine RNs.cons (.lptr rfl) ?_ | refine RNs.cons (.nil rfl) ?_ | refine RNs.cons .nl ?_ | refine RNs.cons (.keep (by simp only [h2]) rfl) ?_ | refine RNs.cons (.tuple' ?_) ?_ | refine RNs.cons (.agg' ?_) ?_)))
      · rw [if_neg (by rw [h2]; exact Bool.false_ne_true)] at hr
        repeat (first | (with_reducible first | refine mv ?_ | refine m12 rfl ?_) | ((with_reducible apply TX.cond_true); (focus rfl); (focus (first | rfl | (simp only [z1, zn, h2]; done)))) | ((with_reducible apply TX.cond_false); (focus rfl); (focus (first | rfl | (simp only [z1, zn, h2]; done)))) | fail)
        cases hr
        refine ⟨rfl, ?_⟩
        exact Wk.ren [] rfl .nil (by (repeat (first | exact RNs.nil | refine RNs.cons .junk ?_ | refine RNs.cons (.keep rfl rfl) ?_ | refine RNs.cons (.lsl rfl rfl) ?_ | refine RNs.cons (.lsl rfl (by simp only [List.length_set])) ?_ | refine RNs.cons (.lptr rfl) ?_ | refine RNs.cons (.nil rfl) ?_ | refine RNs.cons .nl ?_ | refine RNs.cons (.keep (by simp only [h2]) rfl) ?_ | refine RNs.cons (.tuple' ?_) ?_ | refine RNs.cons (.agg' ?_) ?_)))
    · intro e h; cases h
    · try dsimp only
      repeat (first | (with_reducible first | refine mv ?_ | refine m12 rfl ?_ | refine TO.nil ?_) | ((with_reducible first | apply TO.mv | apply TO.bin | apply TO.asg); (repeat (focus (show _ = _; first | exact k1 rfl | exact k2 rfl | (simp only [zz, y36, Nat.reduceAdd, Nat.reduceMul, Nat.reduceLeDiff, Nat.reduceEqDiff] <;> exact rfl) | exact rfl))); (with_reducible refine TO.here ?_)) | ((with_reducible apply TX.region); (focus (simp only [zl] <;> exact rfl)); (focus rfl); (try dsimp only)) | fail)
      cases hr
      refine ⟨.inr rfl, _, (by simp only [zy, y36, tresAll, tres, tload, rowOf, partT]; exact rfl), ?_⟩
      exact wr [] rfl .nil
    · try dsimp only
      exact wr [] rfl .nil
  rfl

end Go.Rex

namespace Go.Rex
open Go.Proofs
open Go Go.Rex Go.RowKit
set_option maxRecDepth 100000
def y37 := an @ag3 <| an @cs3 <| an @ok3 <| an @so22 <| @wi64_0a1
theorem base_Before_spec {v1 : (List Int)} {v2 : (List Int)} {v3 : Bool} (hr : base_Before v1 v2 = some (v3)) : Spec (lim Try.prog) 76 [.list 1 (v1.map e_i), .list 1 (v2.map e_i)] ⟨[.v (.bool v3)], []⟩ := by
  unfold base_Before at hr
  apply Spec.fn Try.func76 rfl
  focus (simp [Try.f76] <;> exact rfl)
  focus
    repeat (first | (with_reducible first | refine mv ?_ | refine m12 rfl ?_ | refine TO.nil ?_) | ((with_reducible first | apply TO.asg); (repeat (focus (show _ = _; first | exact k1 rfl | exact k2 rfl | (simp only [zz, y37, e_i, Nat.reduceAdd, Nat.reduceMul, Nat.reduceLeDiff, Nat.reduceEqDiff] <;> exact rfl) | exact rfl))); (with_reducible refine TO.here ?_)) | ((with_reducible apply TX.region); (focus (simp only [zl] <;> exact rfl)); (focus rfl); (try dsimp only)) | fail)
    obtain ⟨v10, h11, hr⟩ := Option.bind_eq_some_iff.1 hr
    refine TX.loopE (step := base_Before_l1 v1 v2) (x := 0) h11 (fun v4 => ⟨.list 1 (v1.map e_i) :: .list 1 (v2.map e_i) :: .junk :: .junk :: .junk :: .v (.int .i64 v4) :: .junk :: .junk :: .junk :: .junk :: .junk :: .junk :: .junk :: .junk :: .junk :: .junk :: .junk :: .junk :: .junk :: .junk :: .junk :: .junk :: .junk :: .junk :: .junk :: .junk :: .junk :: .junk :: .junk :: .junk :: .junk :: .junk :: .junk :: .junk :: .junk :: .junk :: .junk :: .junk :: .junk :: .junk :: .junk :: [], []⟩) (fun e => match e with | (.inl v7) => (.ret, ⟨.junk :: .junk :: .junk :: .junk :: .v (.bool v7) :: .junk :: .junk :: .junk :: .junk :: .junk :: .junk :: .junk :: .junk :: .junk :: .junk :: .junk :: .junk :: .junk :: .junk :: .junk :: .junk :: .junk :: .junk :: .junk :: .junk :: .junk :: .junk :: .junk :: .junk :: .junk :: .junk :: .junk :: .junk :: .junk :: .junk :: .junk :: .junk :: .junk :: .junk :: .junk :: .junk :: [], []⟩) | (.inr _) => (.exit 0, ⟨.list 1 (v1.map e_i) :: .list 1 (v2.map e_i) :: .junk :: .junk :: .junk :: .junk :: .junk :: .junk :: .junk :: .junk :: .junk :: .junk :: .junk :: .junk :: .junk :: .junk :: .junk :: .junk :: .junk :: .junk :: .junk :: .junk :: .junk :: .junk :: .junk :: .junk :: .junk :: .junk :: .junk :: .junk :: .junk :: .junk :: .junk :: .junk :: .junk :: .junk :: .junk :: .junk :: .junk :: .junk :: .junk :: [], []⟩)) ?_ ?_ ?_ ?_
    · rintro v4 v0 hr
      dsimp only [base_Before_l1] at hr
      try dsimp only
      repeat (first | (with_reducible first | refine mv ?_ | refine m12 rfl ?_ | refine TO.nil ?_) | ((with_reducible first | apply TO.mv | apply TO.len | apply TO.bin); (repeat (focus (show _ = _; first | exact k1 rfl | exact k2 rfl | (simp only [zz, y37, e_i, Nat.reduceAdd, Nat.reduceMul, Nat.reduceLeDiff, Nat.reduceEqDiff, tlen] <;> exact rfl) | exact rfl))); (with_reducible refine TO.here ?_)) | ((with_reducible apply TX.region); (focus (simp only [zl] <;> exact rfl)); (focus rfl); (try dsimp only)) | fail)
      rcases Bool.eq_false_or_eq_true ((decide (v4 < (v1.length : Int)))) with h6 | h6
      · rw [if_pos h6] at hr
        repeat (first | (with_reducible first | refine mv ?_ | refine m12 rfl ?_ | refine TO.nil ?_) | ((with_reducible first | apply TO.mv | apply TO.len | apply TO.bin | apply TO.pk); (repeat (focus (show _ = _; first | exact k1 rfl | exact k2 rfl | (simp only [zz, y37, e_i, Nat.reduceAdd, Nat.reduceMul, Nat.reduceLeDiff, Nat.reduceEqDiff, tlen, h6] <;> exact rfl) | exact rfl))); (with_reducible refine TO.here ?_)) | ((with_reducible apply TX.region); (focus (simp only [zl] <;> exact rfl)); (focus rfl); (try dsimp only)) | ((with_reducible apply TX.cond_true); (focus rfl); (focus (first | rfl | (simp only [z1, zn, h6]; done)))) | ((with_reducible apply TX.cond_false); (focus rfl); (focus (first | rfl | (simp only [z1, zn, h6]; done)))) | fail)
        rcases Bool.eq_false_or_eq_true ((decide (v4 < (v2.length : Int)))) with h7 | h7
        · rw [if_pos h7] at hr
          repeat (first | (with_reducible first | refine mv ?_ | refine m12 rfl ?_ | refine TD.nil ?_) | ((with_reducible first | apply TD.mv); (repeat (focus (show _ = _; first | exact k1 rfl | exact k2 rfl | (simp only [zz, y37, e_i, Nat.reduceAdd, Nat.reduceMul, Nat.reduceLeDiff, Nat.reduceEqDiff, h6, h7] <;> exact rfl) | exact rfl))); (with_reducible refine TD.here ?_)) | ((with_reducible apply TX.drawn); (focus decide +kernel); (focus (simp only [zl] <;> exact rfl)); (focus exact rfl); (try dsimp only)) | ((with_reducible apply TX.cond_true); (focus rfl); (focus (first | rfl | (simp only [z1, zn, h6, h7]; done)))) | ((with_reducible apply TX.cond_false); (focus rfl); (focus (first | rfl | (simp only [z1, zn, h6, h7]; done)))) | fail)
          obtain ⟨v8, h8, hr⟩ := Option.bind_eq_some_iff.1 hr
          try dsimp only at hr
          have h8m := tidx_map (f := e_i) h8
          have h8l := getI_lt h8
          try simp only [List.length_set] at h8l
          have h8a := getI_at h8
          repeat (first | (with_reducible first | refine mv ?_ | refine m12 rfl ?_ | refine TD.nil ?_) | ((with_reducible first | apply TD.ia | apply TD.ld | apply TD.ldw | apply TD.mv); (repeat (focus (show _ = _; first | exact k1 rfl | exact k2 rfl | (simp only [zz, y37, e_i, Nat.reduceAdd, Nat.reduceMul, Nat.reduceLeDiff, Nat.reduceEqDiff, tindexAddr, Nat.zero_add, tload, rowOf, partT, List.getElem?_map, h6, h7, h8m, h8l, h8a] <;> exact rfl) | exact rfl))); (with_reducible refine TD.here ?_)) | ((with_reducible apply TX.drawn); (focus decide +kernel); (focus (simp only [zl] <;> exact rfl)); (focus exact rfl); (try dsimp only)) | fail)
          obtain ⟨v9, h9, hr⟩ := Option.bind_eq_some_iff.1 hr
          try dsimp only at hr
          have h9m := tidx_map (f := e_i) h9
          have h9l := getI_lt h9
          try simp only [List.length_set] at h9l
          have h9a := getI_at h9
          repeat (first | (with_reducible first | refine mv ?_ | refine m12 rfl ?_ | refine TD.nil ?_) | ((with_reducible first | apply TD.ia | apply TD.ld | apply TD.ldw | apply TD.bin); (repeat (focus (show _ = _; first | exact k1 rfl | exact k2 rfl | (simp only [zz, y37, e_i, Nat.reduceAdd, Nat.reduceMul, Nat.reduceLeDiff, Nat.reduceEqDiff, tindexAddr, Nat.zero_add, tload, rowOf, partT, List.getElem?_map, h6, h7, h8m, h8l, h8a, h9m, h9l, h9a] <;> exact rfl) | exact rfl))); (with_reducible refine TD.here ?_)) | ((with_reducible apply TX.drawn); (focus decide +kernel); (focus (simp only [zl] <;> exact rfl)); (focus exact rfl); (try dsimp only)) | ((with_reducible apply TX.cond_true); (focus rfl); (focus (first | rfl | (simp only [z1, zn, h6, h7, h8m, h8l, h8a, h9m, h9l, h9a]; done)))) | ((with_reducible apply TX.cond_false); (focus rfl); (focus (first | rfl | (simp only [z1, zn, h6, h7, h8m, h8l, h8a, h9m, h9l, h9a]; done)))) | fail)
          rcases Bool.eq_false_or_eq_true ((decide (v8 ≠ v9))) with h10 | h10
          · rw [if_pos h10] at hr
            repeat (first | (with_reducible first | refine mv ?_ | refine m12 rfl ?_ | refine TD.nil ?_) | ((with_reducible first | apply TD.mv | apply TD.ia | apply TD.ld | apply TD.ldw | apply TD.bin | apply TD.asg); (repeat (focus (show _ = _; first | exact k1 rfl | exact k2 rfl | (simp only [zz, y37, e_i, Nat.reduceAdd, Nat.reduceMul, Nat.reduceLeDiff, Nat.reduceEqDiff, tindexAddr, Nat.zero_add, tload, rowOf, partT, List.getElem?_map, h6, h7, h8m, h8l, h8a, h9m, h9l, h9a, h10] <;> exact rfl) | exact rfl))); (with_reducible refine TD.here ?_)) | ((with_reducible apply TX.drawn); (focus decide +kernel); (focus (simp only [zl] <;> exact rfl)); (focus exact rfl); (try dsimp only)) | ((with_reducible apply TX.cond_true); (focus rfl); (focus (first | rfl | (simp only [z1, zn, h6, h7, h8m, h8l, h8a, h9m, h9l, h9a, h10]; done)))) | ((with_reducible apply TX.cond_false); (focus rfl); (focus (first | rfl | (simp only [z1, zn, h6, h7, h8m, h8l, h8a, h9m, h9l, h9a, h10]; done)))) | fail)
            cases hr
            refine ⟨rfl, ?_⟩
            exact Wk.ren [] rfl .nil (by (repeat (first | exact RNs.nil | refine RNs.cons .junk ?_ | refine RNs.cons (.keep rfl rfl) ?_ | refine RNs.cons (.lsl rfl rfl) ?_ | refine RNs.cons (.lsl rfl (by simp only [List.length_set])) ?_ | refine RNs.cons (.lptr rfl) ?_ | refine RNs.cons (.nil rfl) ?_ | refine RNs.cons .nl ?_ | refine RNs.cons (.keep (by simp only [h6, h7, h10]) rfl) ?_ | refine RNs.cons (.tuple' ?_) ?_ | refine RNs.cons (.agg' ?_) ?_)))
          · rw [if_neg (by rw [h10]; exact Bool.false_ne_true)] at hr
            repeat (first | (with_reducible first | refine mv ?_ | refine m12 rfl ?_ | refine TO.nil ?_) | ((with_reducible first | apply TO.mv | apply TO.bin | apply TO.asg); (repeat (focus (show _ = _; first | exact k1 rfl | exact k2 rfl | (simp only [zz, y37, e_i, Nat.reduceAdd, Nat.reduceMul, Nat.reduceLeDiff, Nat.reduceEqDiff, h6, h7, h8m, h8l, h8a, h9m, h9l, h9a, h10] <;> exact rfl) | exact rfl))); (with_reducible refine TO.here ?_)) | ((with_reducible apply TX.region); (focus (simp only [zl] <;> exact rfl)); (focus rfl); (try dsimp only)) | ((with_reducible apply TX.cond_true); (focus rfl); (focus (first | rfl | (simp only [z1, zn, h6, h7, h8m, h8l, h8a, h9m, h9l, h9a, h10]; done)))) | ((with_reducible apply TX.cond_false); (focus rfl); (focus (first | rfl | (simp only [z1, zn, h6, h7, h8m, h8l, h8a, h9m, h9l, h9a, h10]; done)))) | fail)
            cases hr
            refine ⟨rfl, ?_⟩
            exact Wk.ren [] rfl .nil (by (repeat (first | exact RNs.nil | refine RNs.cons .junk ?_ | refine RNs.cons (.keep rfl rfl) ?_ | refine RNs.cons (.lsl rfl rfl) ?_ | refine RNs.cons (.lsl rfl (by simp only [List.length_set])) ?_ | refine RNs.cons (.lptr rfl) ?_ | refine RNs.cons (.nil rfl) ?_ | refine RNs.cons .nl ?_ | refine RNs.cons (.keep (by simp only [h6, h7, h10]) rfl) ?_ | refine RNs.cons (.tuple' ?_) ?_ | refine RNs.cons (.agg' ?_) ?_)))
        · rw [if_neg (by rw [h7]; exact Bool.false_ne_true)] at hr
          repeat (first | (with_reducible first | refine mv ?_ | refine m12 rfl ?_) | ((with_reducible apply TX.cond_true); (focus rfl); (focus (first | rfl | (simp only [z1, zn, h6, h7]; done)))) | ((with_reducible apply TX.cond_false); (focus rfl); (focus (first | rfl | (simp only [z1, zn, h6, h7]; done)))) | fail)
          cases hr
          refine ⟨rfl, ?_⟩
          exact Wk.ren [] rfl .nil (by (repeat (first | exact RNs.nil | refine RNs.cons .junk ?_ | refine RNs.cons (.keep rfl rfl) ?_ | refine RNs.cons (.lsl rfl rfl) ?_ | refine RNs.cons (.lsl rfl (by simp only [List.length_set])) ?_ | refine RNs.cons (.lptr rfl) ?_ | refine RNs.cons (.nil rfl) ?_ | refine RNs.cons .nl ?_ | refine RNs.cons (.keep (by simp only [h6, h7]) rfl) ?_ | refine RNs.cons (.tuple' ?_) ?_ | refine RNs.cons (.agg' ?_) ?_)))
      · rw [if_neg (by rw [h6]; exact Bool.false_ne_true)] at hr
        repeat (first | (with_reducible first | refine mv ?_ | refine m12 rfl ?_ | refine TO.nil ?_) | ((with_reducible first | apply TO.pk); (repeat (focus (show _ = _; first | exact k1 rfl | exact k2 rfl | (simp only [zz, y37, e_i, Nat.reduceAdd, Nat.reduceMul, Nat.reduceLeDiff, Nat.reduceEqDiff, h6] <;> exact rfl) | exact rfl))); (with_reducible refine TO.here ?_)) | ((with_reducible apply TO.skip1); (repeat (focus (show _ = _; first | exact k1 rfl | exact k2 rfl | (simp only [zz, y37, e_i, Nat.reduceAdd, Nat.reduceMul, Nat.reduceLeDiff, Nat.reduceEqDiff, twant, zp, zs, h6] <;> exact rfl) | exact rfl))); (with_reducible refine TO.here ?_)) | ((with_reducible apply TX.region); (focus (simp only [zl] <;> exact rfl)); (focus rfl); (try dsimp only)) | ((with_reducible apply TX.cond_true); (focus rfl); (focus (first | rfl | (simp only [z1, zn, h6]; done)))) | ((with_reducible apply TX.cond_false); (focus rfl); (focus (first | rfl | (simp only [z1, zn, h6]; done)))) | fail)
        cases hr
        refine ⟨rfl, ?_⟩
        exact Wk.ren [] rfl .nil (by (repeat (first | exact RNs.nil | refine RNs.cons .junk ?_ | refine RNs.cons (.keep rfl rfl) ?_ | refine RNs.cons (.lsl rfl rfl) ?_ | refine RNs.cons (.lsl rfl (by simp only [List.length_set])) ?_ | refine RNs.cons (.lptr rfl) ?_ | refine RNs.cons (.nil rfl) ?_ | refine RNs.cons .nl ?_ | refine RNs.cons (.keep (by simp only [h6]) rfl) ?_ | refine RNs.cons (.tuple' ?_) ?_ | refine RNs.cons (.agg' ?_) ?_)))
    · intro e h; rcases e with _ | e <;> cases h
    · try dsimp only
      rcases v10 with v11 | _
      · try dsimp only at hr
        try dsimp only
        repeat (first | (with_reducible first | refine mv ?_ | refine m12 rfl ?_) | fail)
        cases hr
        refine ⟨.inr rfl, _, (by simp only [zy, y37, e_i, tresAll, tres, tload, rowOf, partT]; exact rfl), ?_⟩
        exact wr [] rfl .nil
      · try dsimp only at hr
        try dsimp only
        repeat (first | (with_reducible first | refine mv ?_ | refine m12 rfl ?_ | refine TO.nil ?_) | ((with_reducible first | apply TO.mv | apply TO.len | apply TO.bin | apply TO.asg); (repeat (focus (show _ = _; first | exact k1 rfl | exact k2 rfl | (simp only [zz, y37, e_i, Nat.reduceAdd, Nat.reduceMul, Nat.reduceLeDiff, Nat.reduceEqDiff, tlen] <;> exact rfl) | exact rfl))); (with_reducible refine TO.here ?_)) | ((with_reducible apply TX.region); (focus (simp only [zl] <;> exact rfl)); (focus rfl); (try dsimp only)) | fail)
        cases hr
        refine ⟨.inr rfl, _, (by simp only [zy, y37, e_i, tresAll, tres, tload, rowOf, partT]; exact rfl), ?_⟩
        exact wr [] rfl .nil
    · try dsimp only
      exact wr [] rfl .nil
  rfl

end Go.Rex

namespace Go.Rex
open Go.Proofs
open Go Go.Rex Go.RowKit
set_option maxRecDepth 100000
def y38 := an @ag22 <| an @ag24 <| an @by3 <| an @cs24 <| an @cs3 <| an @fd24_1 <| an @ni22 <| an @ok24 <| an @so22 <| an @st24 <| an @zc24 <| an @zc3 <| an @wi64_0a1 <| @wi64_1a1
theorem ref04_FirstMaximal_spec {v1 : Int} {v2 : Int} {v3 : (List Int)} (hr : ref04_FirstMaximal v1 = some (v2, v3)) : Spec (lim Try.prog) 33 [.v (.int .i64 v1)] ⟨[.agg [.v (.int .i64 v2), .lsl 0 0 v3.length]], [.rows 1 (v3.map e_i)]⟩ := by
  unfold ref04_FirstMaximal at hr
  apply Spec.fn Try.func33 rfl
  focus (simp [Try.f33] <;> exact rfl)
  focus
    repeat (first | (with_reducible first | refine mv ?_ | refine m12 rfl ?_ | refine TO.nil ?_) | ((with_reducible first | apply TO.al | apply TO.bld | apply TO.sv | apply TO.mv | apply TO.bin); (repeat (focus (show _ = _; first | exact k1 rfl | exact k2 rfl | (simp only [zz, y38, e_i, Nat.reduceAdd, Nat.reduceMul, Nat.reduceLeDiff, Nat.reduceEqDiff, tbuild, tfill] <;> exact rfl) | exact rfl))); (with_reducible refine TO.here ?_)) | ((with_reducible apply TX.region); (focus (simp only [zl] <;> exact rfl)); (focus rfl); (try dsimp only)) | fail)
    obtain ⟨v4, h1, hr⟩ := Option.bind_eq_some_iff.1 hr
    try dsimp only at hr
    apply TO.cal (by first | rfl | (simp only [twant, z1, zp, zs]; done)) rfl goFn35 (ref04_Most_037b_spec h1) rfl rfl rfl
    (repeat (focus (show _ = _; first | exact k1 rfl | exact k2 rfl | (simp only [zz, y38, e_i, Nat.reduceAdd, Nat.reduceMul, Nat.reduceLeDiff, Nat.reduceEqDiff, shift, kill, killB, frz, frzB, view, tml, tmlc, List.length_set] <;> exact rfl) | exact rfl)))
    with_reducible apply TO.here
    repeat (first | (with_reducible first | refine mv ?_ | refine m12 rfl ?_ | refine TO.nil ?_) | ((with_reducible first | apply TO.asg); (repeat (focus (show _ = _; first | exact k1 rfl | exact k2 rfl | (simp only [zz, y38, e_i, Nat.reduceAdd, Nat.reduceMul, Nat.reduceLeDiff, Nat.reduceEqDiff] <;> exact rfl) | exact rfl))); (with_reducible refine TO.here ?_)) | ((with_reducible apply TX.region); (focus (simp only [zl] <;> exact rfl)); (focus rfl); (try dsimp only)) | fail)
    obtain ⟨⟨v30, v31⟩, h30, hr⟩ := Option.bind_eq_some_iff.1 hr
    try dsimp only at hr
    refine TX.loopE (step := ref04_FirstMaximal_l1 v1 v4) (x := (0, ([] : List Int), 0)) h30 (fun (v5, v6, v7) => ⟨.v (.int .i64 v1) :: .junk :: .lptr 0 0 0 :: .lptr 1 0 0 :: .v (.int .i64 v4) :: .v (.int .i64 v7) :: .junk :: .junk :: .junk :: .junk :: .junk :: .junk :: .junk :: .junk :: .junk :: .junk :: .junk :: .junk :: .junk :: .junk :: .junk :: .junk :: .junk :: .junk :: .junk :: .junk :: .junk :: .junk :: .junk :: .junk :: .junk :: .junk :: .junk :: .junk :: .junk :: .junk :: .junk :: .junk :: .junk :: .junk :: .junk :: .junk :: .junk :: .junk :: .junk :: .junk :: .junk :: .junk :: .junk :: .junk :: .junk :: .junk :: .junk :: .junk :: .junk :: .junk :: .junk :: .junk :: [], [.var [.v (.int .i64 0), .v (.slice none 0 0)], .var [.v (.int .i64 v5), .lsl 2 0 v6.length], .rows 1 (v6.map e_i)]⟩) (fun (v18, v19) => (.exit 0, ⟨.junk :: .junk :: .lptr 0 0 0 :: .lptr 1 0 0 :: .junk :: .junk :: .junk :: .junk :: .junk :: .junk :: .junk :: .junk :: .junk :: .junk :: .junk :: .junk :: .junk :: .junk :: .junk :: .junk :: .junk :: .junk :: .junk :: .junk :: .junk :: .junk :: .junk :: .junk :: .junk :: .junk :: .junk :: .junk :: .junk :: .junk :: .junk :: .junk :: .junk :: .junk :: .junk :: .junk :: .junk :: .junk :: .junk :: .junk :: .junk :: .junk :: .junk :: .junk :: .junk :: .junk :: .junk :: .junk :: .junk :: .junk :: .junk :: .junk :: .junk :: .junk :: [], [.var [.v (.int .i64 0), .v (.slice none 0 0)], .var [.v (.int .i64 v18), .lsl 2 0 v19.length], .rows 1 (v19.map e_i)]⟩)) ?_ ?_ ?_ ?_
    · rintro ⟨v5, v6, v7⟩ v0 hr
      dsimp only [ref04_FirstMaximal_l1] at hr
      try dsimp only
      repeat (first | (with_reducible first | refine mv ?_ | refine m12 rfl ?_ | refine TO.nil ?_) | ((with_reducible first | apply TO.mv | apply TO.bin); (repeat (focus (show _ = _; first | exact k1 rfl | exact k2 rfl | (simp only [zz, y38, e_i, Nat.reduceAdd, Nat.reduceMul, Nat.reduceLeDiff, Nat.reduceEqDiff] <;> exact rfl) | exact rfl))); (with_reducible refine TO.here ?_)) | ((with_reducible apply TX.region); (focus (simp only [zl] <;> exact rfl)); (focus rfl); (try dsimp only)) | ((with_reducible apply TX.cond_true); (focus rfl); (focus (first | rfl | (simp only [z1, zn]; done)))) | ((with_reducible apply TX.cond_false); (focus rfl); (focus (first | rfl | (simp only [z1, zn]; done)))) | fail)
      rcases Bool.eq_false_or_eq_true ((decide (v7 ≤ v4))) with h16 | h16
      · rw [if_pos h16] at hr
        repeat (first | (with_reducible first | refine mv ?_ | refine m12 rfl ?_ | refine TO.nil ?_) | ((with_reducible first | apply TO.asg | apply TO.mv); (repeat (focus (show _ = _; first | exact k1 rfl | exact k2 rfl | (simp only [zz, y38, e_i, Nat.reduceAdd, Nat.reduceMul, Nat.reduceLeDiff, Nat.reduceEqDiff, h16] <;> exact rfl) | exact rfl))); (with_reducible refine TO.here ?_)) | ((with_reducible apply TX.region); (focus (simp only [zl] <;> exact rfl)); (focus rfl); (try dsimp only)) | ((with_reducible apply TX.cond_true); (focus rfl); (focus (first | rfl | (simp only [z1, zn, h16]; done)))) | ((with_reducible apply TX.cond_false); (focus rfl); (focus (first | rfl | (simp only [z1, zn, h16]; done)))) | fail)
        apply TX.vt (α := Int) e_i 6 1 rfl
        (repeat (focus (show _ = _; first | exact k1 rfl | exact k2 rfl | (simp only [zz, y38, e_i, Nat.reduceAdd, Nat.reduceMul, Nat.reduceLeDiff, Nat.reduceEqDiff, h16] <;> exact rfl) | exact rfl)))
        with_reducible apply TX.here
        repeat (first | (with_reducible first | refine mv ?_ | refine m12 rfl ?_) | fail)
        obtain ⟨v26, h23, hr⟩ := Option.bind_eq_some_iff.1 hr
        try dsimp only at hr
        refine TX.loopE (step := ref04_FirstMaximal_l2 v1) (x := (([] : List Int), v7, 1)) h23 (fun (v20, v21, v22) => ⟨.v (.int .i64 v1) :: .junk :: .lptr 0 0 0 :: .lptr 1 0 0 :: .v (.int .i64 v4) :: .v (.int .i64 v7) :: .lsl 3 0 v20.length :: .v (.int .i64 v21) :: .v (.int .i64 v22) :: .junk :: .junk :: .junk :: .junk :: .junk :: .junk :: .junk :: .junk :: .junk :: .junk :: .junk :: .junk :: .junk :: .junk :: .junk :: .junk :: .junk :: .junk :: .junk :: .junk :: .junk :: .junk :: .junk :: .junk :: .junk :: .junk :: .junk :: .junk :: .junk :: .junk :: .junk :: .junk :: .junk :: .junk :: .junk :: .junk :: .junk :: .junk :: .junk :: .junk :: .junk :: .junk :: .junk :: .junk :: .junk :: .junk :: .junk :: .junk :: .junk :: [], [.var [.v (.int .i64 0), .v (.slice none 0 0)], .var [.v (.int .i64 v5), .lsl 2 0 v6.length], .rows 1 (v6.map e_i), .rows 1 (v20.map e_i)]⟩) (fun v24 => (.exit 2, ⟨.v (.int .i64 v1) :: .junk :: .lptr 0 0 0 :: .lptr 1 0 0 :: .v (.int .i64 v4) :: .v (.int .i64 v7) :: .lsl 3 0 v24.length :: .junk :: .junk :: .junk :: .junk :: .junk :: .junk :: .junk :: .junk :: .junk :: .junk :: .junk :: .junk :: .junk :: .junk :: .junk :: .junk :: .junk :: .junk :: .junk :: .junk :: .junk :: .junk :: .junk :: .junk :: .junk :: .junk :: .junk :: .junk :: .junk :: .junk :: .junk :: .junk :: .junk :: .junk :: .junk :: .junk :: .junk :: .junk :: .junk :: .junk :: .junk :: .junk :: .junk :: .junk :: .junk :: .junk :: .junk :: .junk :: .junk :: .junk :: .junk :: [], [.var [.v (.int .i64 0), .v (.slice none 0 0)], .var [.v (.int .i64 v5), .lsl 2 0 v6.length], .rows 1 (v6.map e_i), .rows 1 (v24.map e_i)]⟩)) ?_ ?_ ?_ ?_
        · rintro ⟨v20, v21, v22⟩ v0 hr
          dsimp only [ref04_FirstMaximal_l2] at hr
          try dsimp only
          repeat (first | (with_reducible first | refine mv ?_ | refine m12 rfl ?_ | refine TO.nil ?_) | ((with_reducible first | apply TO.mv | apply TO.bin); (repeat (focus (show _ = _; first | exact k1 rfl | exact k2 rfl | (simp only [zz, y38, e_i, Nat.reduceAdd, Nat.reduceMul, Nat.reduceLeDiff, Nat.reduceEqDiff, h16] <;> exact rfl) | exact rfl))); (with_reducible refine TO.here ?_)) | ((with_reducible apply TX.region); (focus (simp only [zl] <;> exact rfl)); (focus rfl); (try dsimp only)) | ((with_reducible apply TX.cond_true); (focus rfl); (focus (first | rfl | (simp only [z1, zn, h16]; done)))) | ((with_reducible apply TX.cond_false); (focus rfl); (focus (first | rfl | (simp only [z1, zn, h16]; done)))) | fail)
          rcases Bool.eq_false_or_eq_true ((decide (v22 < v1))) with h20 | h20
          · rw [if_pos h20] at hr
            repeat (first | (with_reducible first | refine mv ?_ | refine m12 rfl ?_ | refine TO.nil ?_) | ((with_reducible first | apply TO.mv | apply TO.bin); (repeat (focus (show _ = _; first | exact k1 rfl | exact k2 rfl | (simp only [zz, y38, e_i, Nat.reduceAdd, Nat.reduceMul, Nat.reduceLeDiff, Nat.reduceEqDiff, h16, h20] <;> exact rfl) | exact rfl))); (with_reducible refine TO.here ?_)) | ((with_reducible apply TX.region); (focus (simp only [zl] <;> exact rfl)); (focus rfl); (try dsimp only)) | ((with_reducible apply TX.cond_true); (focus rfl); (focus (first | rfl | (simp only [z1, zn, h16, h20]; done)))) | ((with_reducible apply TX.cond_false); (focus rfl); (focus (first | rfl | (simp only [z1, zn, h16, h20]; done)))) | fail)
            rcases Bool.eq_false_or_eq_true ((decide ((v21.tmod 2) = 1))) with h21 | h21
            · rw [if_pos h21] at hr
              repeat (first | (with_reducible first | refine mv ?_ | refine m12 rfl ?_ | refine TO.nil ?_) | ((with_reducible first | apply TO.mv); (repeat (focus (show _ = _; first | exact k1 rfl | exact k2 rfl | (simp only [zz, y38, e_i, Nat.reduceAdd, Nat.reduceMul, Nat.reduceLeDiff, Nat.reduceEqDiff, h16, h20, h21] <;> exact rfl) | exact rfl))); (with_reducible refine TO.here ?_)) | ((with_reducible apply TX.region); (focus (simp only [zl] <;> exact rfl)); (focus rfl); (try dsimp only)) | ((with_reducible apply TX.cond_true); (focus rfl); (focus (first | rfl | (simp only [z1, zn, h16, h20, h21]; done)))) | ((with_reducible apply TX.cond_false); (focus rfl); (focus (first | rfl | (simp only [z1, zn, h16, h20, h21]; done)))) | fail)
              apply TO.bm e_i ([v22] : List Int) (by first | rfl | (simp only [twant, z1, zp, zs, h16, h20, h21]; done)) rfl (by simp only [zz, y38, e_i, Nat.reduceAdd, Nat.reduceMul, Nat.reduceLeDiff, Nat.reduceEqDiff, tslice, tparts, h16, h20, h21]; exact rfl) rfl
              (repeat (focus (show _ = _; first | exact k1 rfl | exact k2 rfl | (simp only [zz, y38, e_i, Nat.reduceAdd, Nat.reduceMul, Nat.reduceLeDiff, Nat.reduceEqDiff, tslice, tparts, h16, h20, h21] <;> exact rfl) | exact rfl)))
              with_reducible apply TO.here
              repeat (first | (with_reducible first | refine mv ?_ | refine m12 rfl ?_ | refine TO.nil ?_) | ((with_reducible apply TX.region); (focus (simp only [zl] <;> exact rfl)); (focus rfl); (try dsimp only)) | fail)
              obtain ⟨v25, h22, hr⟩ := Option.bind_eq_some_iff.1 hr
              try dsimp only at hr
              apply TO.ap (f := e_i) (xs := v20) (ys := ([v22] : List Int)) (by first | rfl | (simp only [twant, z1, zp, zs, h16, h20, h21]; done)) rfl rfl (by first | rfl | simp only [List.length_set]) rfl rfl so22 ni22 zc3 rfl (by rw [by3]; exact h22) (fun _ => ⟨rfl, rfl, rfl⟩)
              (repeat (focus (show _ = _; first | exact k1 rfl | exact k2 rfl | (simp only [zz, y38, e_i, Nat.reduceAdd, Nat.reduceMul, Nat.reduceLeDiff, Nat.reduceEqDiff, shift, kill, killB, frz, frzB, view, tml, tmlc, List.length_set, h16, h20, h21] <;> exact rfl) | exact rfl)))
              with_reducible apply TO.here
              repeat (first | (with_reducible first | refine mv ?_ | refine m12 rfl ?_ | refine TO.nil ?_) | ((with_reducible first | apply TO.asg | apply TO.mv | apply TO.bin); (repeat (focus (show _ = _; first | exact k1 rfl | exact k2 rfl | (simp only [zz, y38, e_i, Nat.reduceAdd, Nat.reduceMul, Nat.reduceLeDiff, Nat.reduceEqDiff, h16, h20, h21] <;> exact rfl) | exact rfl))); (with_reducible refine TO.here ?_)) | ((with_reducible apply TX.region); (focus (simp only [zl] <;> exact rfl)); (focus rfl); (try dsimp only)) | fail)
              cases hr
              refine ⟨rfl, ?_⟩
              exact Wk.ren [some 0, some 1, some 2, some 3] rfl (rv (rv (.rows (.rows .nil rfl rfl) rfl rfl) rfl) rfl) (by (repeat (first | exact RNs.nil | refine RNs.cons .junk ?_ | refine RNs.cons (.keep rfl rfl) ?_ | refine RNs.cons (.lsl rfl rfl) ?_ | refine RNs.cons (.lsl rfl (by simp only [List.length_set])) ?_ | refine RNs.cons (.lptr rfl) ?_ | refine RNs.cons (.nil rfl) ?_ | refine RNs.cons .nl ?_ | refine RNs.cons (.keep (by simp only [h16, h20, h21]) rfl) ?_ | refine RNs.cons (.tuple' ?_) ?_ | refine RNs.cons (.agg' ?_) ?_)))
            · rw [if_neg (by rw [h21]; exact Bool.false_ne_true)] at hr
              repeat (first | (with_reducible first | refine mv ?_ | refine m12 rfl ?_ | refine TO.nil ?_) | ((with_reducible first | apply TO.mv | apply TO.bin | apply TO.asg); (repeat (focus (show _ = _; first | exact k1 rfl | exact k2 rfl | (simp only [zz, y38, e_i, Nat.reduceAdd, Nat.reduceMul, Nat.reduceLeDiff, Nat.reduceEqDiff, h16, h20, h21] <;> exact rfl) | exact rfl))); (with_reducible refine TO.here ?_)) | ((with_reducible apply TX.region); (focus (simp only [zl] <;> exact rfl)); (focus rfl); (try dsimp only)) | ((with_reducible apply TX.cond_true); (focus rfl); (focus (first | rfl | (simp only [z1, zn, h16, h20, h21]; done)))) | ((with_reducible apply TX.cond_false); (focus rfl); (focus (first | rfl | (simp only [z1, zn, h16, h20, h21]; done)))) | fail)
              cases hr
              refine ⟨rfl, ?_⟩
              exact Wk.ren [some 0, some 1, some 2, some 3] rfl (rv (rv (.rows (.rows .nil rfl rfl) rfl rfl) rfl) rfl) (by (repeat (first | exact RNs.nil | refine RNs.cons .junk ?_ | refine RNs.cons (.keep rfl rfl) ?_ | refine RNs.cons (.lsl rfl rfl) ?_ | refine RNs.cons (.lsl rfl (by simp only [List.length_set])) ?_ | refine RNs.cons (.lptr rfl) ?_ | refine RNs.cons (.nil rfl) ?_ | refine RNs.cons .nl ?_ | refine RNs.cons (.keep (by simp only [h16, h20, h21]) rfl) ?_ | refine RNs.cons (.tuple' ?_) ?_ | refine RNs.cons (.agg' ?_) ?_)))
          · rw [if_neg (by rw [h20]; exact Bool.false_ne_true)] at hr
            repeat (first | (with_reducible first | refine mv ?_ | refine m12 rfl ?_) | ((with_reducible apply TX.cond_true); (focus rfl); (focus (first | rfl | (simp only [z1, zn, h16, h20]; done)))) | ((with_reducible apply TX.cond_false); (focus rfl); (focus (first | rfl | (simp only [z1, zn, h16, h20]; done)))) | fail)
            cases hr
            refine ⟨rfl, ?_⟩
            exact Wk.ren [some 0, some 1, some 2, some 3] rfl (rv (rv (.rows (.rows .nil rfl rfl) rfl rfl) rfl) rfl) (by (repeat (first | exact RNs.nil | refine RNs.cons .junk ?_ | refine RNs.cons (.keep rfl rfl) ?_ | refine RNs.cons (.lsl rfl rfl) ?_ | refine RNs.cons (.lsl rfl (by simp only [List.length_set])) ?_ | refine RNs.cons (.lptr rfl) ?_ | refine RNs.cons (.nil rfl) ?_ | refine RNs.cons .nl ?_ | refine RNs.cons (.keep (by simp only [h16, h20]) rfl) ?_ | refine RNs.cons (.tuple' ?_) ?_ | refine RNs.cons (.agg' ?_) ?_)))
        · intro e h; cases h
        · try dsimp only
          repeat (first | (with_reducible first | refine mv ?_ | refine m12 rfl ?_ | refine TO.nil ?_) | ((with_reducible first | apply TO.mv); (repeat (focus (show _ = _; first | exact k1 rfl | exact k2 rfl | (simp only [zz, y38, e_i, Nat.reduceAdd, Nat.reduceMul, Nat.reduceLeDiff, Nat.reduceEqDiff, h16] <;> exact rfl) | exact rfl))); (with_reducible refine TO.here ?_)) | ((with_reducible apply TX.region); (focus (simp only [zl] <;> exact rfl)); (focus rfl); (try dsimp only)) | fail)
          apply TO.bm e_i ([v1] : List Int) (by first | rfl | (simp only [twant, z1, zp, zs, h16]; done)) rfl (by simp only [zz, y38, e_i, Nat.reduceAdd, Nat.reduceMul, Nat.reduceLeDiff, Nat.reduceEqDiff, tslice, tparts, h16]; exact rfl) rfl
          (repeat (focus (show _ = _; first | exact k1 rfl | exact k2 rfl | (simp only [zz, y38, e_i, Nat.reduceAdd, Nat.reduceMul, Nat.reduceLeDiff, Nat.reduceEqDiff, tslice, tparts, h16] <;> exact rfl) | exact rfl)))
          with_reducible apply TO.here
          repeat (first | (with_reducible first | refine mv ?_ | refine m12 rfl ?_ | refine TO.nil ?_) | ((with_reducible apply TX.region); (focus (simp only [zl] <;> exact rfl)); (focus rfl); (try dsimp only)) | fail)
          obtain ⟨v27, h24, hr⟩ := Option.bind_eq_some_iff.1 hr
          try dsimp only at hr
          apply TO.ap (f := e_i) (xs := v26) (ys := ([v1] : List Int)) (by first | rfl | (simp only [twant, z1, zp, zs, h16]; done)) rfl rfl (by first | rfl | simp only [List.length_set]) rfl rfl so22 ni22 zc3 rfl (by rw [by3]; exact h24) (fun _ => ⟨rfl, rfl, rfl⟩)
          (repeat (focus (show _ = _; first | exact k1 rfl | exact k2 rfl | (simp only [zz, y38, e_i, Nat.reduceAdd, Nat.reduceMul, Nat.reduceLeDiff, Nat.reduceEqDiff, shift, kill, killB, frz, frzB, view, tml, tmlc, List.length_set, h16] <;> exact rfl) | exact rfl)))
          with_reducible apply TO.here
          repeat (first | (with_reducible first | refine mv ?_ | refine m12 rfl ?_ | refine TO.nil ?_) | ((with_reducible first | apply TO.bld | apply TO.al | apply TO.sv | apply TO.ld); (repeat (focus (show _ = _; first | exact k1 rfl | exact k2 rfl | (simp only [zz, y38, e_i, Nat.reduceAdd, Nat.reduceMul, Nat.reduceLeDiff, Nat.reduceEqDiff, tbuild, tfill, tload, rowOf, partT, List.getElem?_map, h16] <;> exact rfl) | exact rfl))); (with_reducible refine TO.here ?_)) | ((with_reducible apply TX.region); (focus (simp only [zl] <;> exact rfl)); (focus rfl); (try dsimp only)) | fail)
          obtain ⟨v28, h25, hr⟩ := Option.bind_eq_some_iff.1 hr
          try dsimp only at hr
          apply TO.lok (by first | rfl | (simp only [twant, z1, zp, zs, h16]; done)) rfl goFn31 (ref04_IsMaximal_spec h25) (by simp only [view, z1, z3, zl, tml, tmlc, List.length_set, Nat.reduceEqDiff, if_false]) rfl rfl (by simp [clTB, cl, e_i])
          (repeat (focus (show _ = _; first | exact k1 rfl | exact k2 rfl | (simp only [zz, y38, e_i, Nat.reduceAdd, Nat.reduceMul, Nat.reduceLeDiff, Nat.reduceEqDiff, shift, kill, killB, frz, frzB, view, tml, tmlc, List.length_set, h16] <;> exact rfl) | exact rfl)))
          with_reducible apply TO.here
          repeat (first | (with_reducible first | refine mv ?_ | refine m12 rfl ?_ | refine TO.nil ?_) | ((with_reducible first | apply TO.mv); (repeat (focus (show _ = _; first | exact k1 rfl | exact k2 rfl | (simp only [zz, y38, e_i, Nat.reduceAdd, Nat.reduceMul, Nat.reduceLeDiff, Nat.reduceEqDiff, h16] <;> exact rfl) | exact rfl))); (with_reducible refine TO.here ?_)) | ((with_reducible apply TX.region); (focus (simp only [zl] <;> exact rfl)); (focus rfl); (try dsimp only)) | fail)
          rcases Bool.eq_false_or_eq_true (v28) with h26 | h26
          · rw [if_pos h26] at hr
            repeat (first | (with_reducible first | refine mv ?_ | refine m12 rfl ?_ | refine TO.nil ?_) | ((with_reducible first | apply TO.fa | apply TO.ld | apply TO.len | apply TO.bin | apply TO.mv); (repeat (focus (show _ = _; first | exact k1 rfl | exact k2 rfl | (simp only [zz, y38, e_i, Nat.reduceAdd, Nat.reduceMul, Nat.reduceLeDiff, Nat.reduceEqDiff, tfieldAddr, tload, rowOf, partT, List.getElem?_map, tlen, h16, h26] <;> exact rfl) | exact rfl))); (with_reducible refine TO.here ?_)) | ((with_reducible apply TX.region); (focus (simp only [zl] <;> exact rfl)); (focus rfl); (try dsimp only)) | fail)
            rcases Bool.eq_false_or_eq_true ((decide ((v6.length : Int) = 0))) with h27 | h27
            · rw [if_pos h27] at hr
              repeat (first | (with_reducible first | refine mv ?_ | refine m12 rfl ?_ | refine TO.nil ?_) | ((with_reducible first | apply TO.pk | apply TO.ld | apply TO.sv | apply TO.mv | apply TO.bin | apply TO.asg); (repeat (focus (show _ = _; first | exact k1 rfl | exact k2 rfl | (simp only [zz, y38, e_i, Nat.reduceAdd, Nat.reduceMul, Nat.reduceLeDiff, Nat.reduceEqDiff, tload, rowOf, partT, List.getElem?_map, h16, h26, h27] <;> exact rfl) | exact rfl))); (with_reducible refine TO.here ?_)) | ((with_reducible apply TO.skip1); (repeat (focus (show _ = _; first | exact k1 rfl | exact k2 rfl | (simp only [zz, y38, e_i, Nat.reduceAdd, Nat.reduceMul, Nat.reduceLeDiff, Nat.reduceEqDiff, twant, zp, zs, h16, h26, h27] <;> exact rfl) | exact rfl))); (with_reducible refine TO.here ?_)) | ((with_reducible apply TX.region); (focus (simp only [zl] <;> exact rfl)); (focus rfl); (try dsimp only)) | ((with_reducible apply TX.cond_true); (focus rfl); (focus (first | rfl | (simp only [z1, zn, h16, h26, h27]; done)))) | ((with_reducible apply TX.cond_false); (focus rfl); (focus (first | rfl | (simp only [z1, zn, h16, h26, h27]; done)))) | fail)
              cases hr
              refine ⟨rfl, ?_⟩
              exact Wk.ren [some 0, some 1, some 3] rfl (rv (rv (.rows .nil rfl rfl) rfl) rfl) (by (repeat (first | exact RNs.nil | refine RNs.cons .junk ?_ | refine RNs.cons (.keep rfl rfl) ?_ | refine RNs.cons (.lsl rfl rfl) ?_ | refine RNs.cons (.lsl rfl (by simp only [List.length_set])) ?_ | refine RNs.cons (.lptr rfl) ?_ | refine RNs.cons (.nil rfl) ?_ | refine RNs.cons .nl ?_ | refine RNs.cons (.keep (by simp only [h16, h26, h27]) rfl) ?_ | refine RNs.cons (.tuple' ?_) ?_ | refine RNs.cons (.agg' ?_) ?_)))
            · rw [if_neg (by rw [h27]; exact Bool.false_ne_true)] at hr
              repeat (first | (with_reducible first | refine mv ?_ | refine m12 rfl ?_ | refine TO.nil ?_) | ((with_reducible first | apply TO.fa | apply TO.ld); (repeat (focus (show _ = _; first | exact k1 rfl | exact k2 rfl | (simp only [zz, y38, e_i, Nat.reduceAdd, Nat.reduceMul, Nat.reduceLeDiff, Nat.reduceEqDiff, tfieldAddr, tload, rowOf, partT, List.getElem?_map, h16, h26, h27] <;> exact rfl) | exact rfl))); (with_reducible refine TO.here ?_)) | ((with_reducible apply TX.region); (focus (simp only [zl] <;> exact rfl)); (focus rfl); (try dsimp only)) | fail)
              obtain ⟨v29, h28, hr⟩ := Option.bind_eq_some_iff.1 hr
              try dsimp only at hr
              apply TO.lok (by first | rfl | (simp only [twant, z1, zp, zs, h16, h26, h27]; done)) rfl goFn76 (base_Before_spec h28) (by simp only [view, z1, z3, zl, tml, tmlc, List.length_set, Nat.reduceEqDiff, if_false]) rfl rfl (by simp [clTB, cl, e_i])
              (repeat (focus (show _ = _; first | exact k1 rfl | exact k2 rfl | (simp only [zz, y38, e_i, Nat.reduceAdd, Nat.reduceMul, Nat.reduceLeDiff, Nat.reduceEqDiff, shift, kill, killB, frz, frzB, view, tml, tmlc, List.length_set, h16, h26, h27] <;> exact rfl) | exact rfl)))
              with_reducible apply TO.here
              repeat (first | (with_reducible first | refine mv ?_ | refine m12 rfl ?_ | refine TO.nil ?_) | ((with_reducible first | apply TO.pk); (repeat (focus (show _ = _; first | exact k1 rfl | exact k2 rfl | (simp only [zz, y38, e_i, Nat.reduceAdd, Nat.reduceMul, Nat.reduceLeDiff, Nat.reduceEqDiff, h16, h26, h27] <;> exact rfl) | exact rfl))); (with_reducible refine TO.here ?_)) | ((with_reducible apply TX.region); (focus (simp only [zl] <;> exact rfl)); (focus rfl); (try dsimp only)) | ((with_reducible apply TX.cond_true); (focus rfl); (focus (first | rfl | (simp only [z1, zn, h16, h26, h27]; done)))) | ((with_reducible apply TX.cond_false); (focus rfl); (focus (first | rfl | (simp only [z1, zn, h16, h26, h27]; done)))) | fail)
              rcases Bool.eq_false_or_eq_true (v29) with h29 | h29
              · rw [if_pos h29] at hr
                repeat (first | (with_reducible first | refine mv ?_ | refine m12 rfl ?_ | refine TO.nil ?_) | ((with_reducible first | apply TO.ld | apply TO.sv | apply TO.mv | apply TO.bin | apply TO.asg); (repeat (focus (show _ = _; first | exact k1 rfl | exact k2 rfl | (simp only [zz, y38, e_i, Nat.reduceAdd, Nat.reduceMul, Nat.reduceLeDiff, Nat.reduceEqDiff, tload, rowOf, partT, List.getElem?_map, h16, h26, h27, h29] <;> exact rfl) | exact rfl))); (with_reducible refine TO.here ?_)) | ((with_reducible apply TX.region); (focus (simp only [zl] <;> exact rfl)); (focus rfl); (try dsimp only)) | ((with_reducible apply TX.cond_true); (focus rfl); (focus (first | rfl | (simp only [z1, zn, h16, h26, h27, h29]; done)))) | ((with_reducible apply TX.cond_false); (focus rfl); (focus (first | rfl | (simp only [z1, zn, h16, h26, h27, h29]; done)))) | fail)
                cases hr
                refine ⟨rfl, ?_⟩
                exact Wk.ren [some 0, some 1, some 3] rfl (rv (rv (.rows .nil rfl rfl) rfl) rfl) (by (repeat (first | exact RNs.nil | refine RNs.cons .junk ?_ | refine RNs.cons (.keep rfl rfl) ?_ | refine RNs.cons (.lsl rfl rfl) ?_ | refine RNs.cons (.lsl rfl (by simp only [List.length_set])) ?_ | refine RNs.cons (.lptr rfl) ?_ | refine RNs.cons (.nil rfl) ?_ | refine RNs.cons .nl ?_ | refine RNs.cons (.keep (by simp only [h16, h26, h27, h29]) rfl) ?_ | refine RNs.cons (.tuple' ?_) ?_ | refine RNs.cons (.agg' ?_) ?_)))
              · rw [if_neg (by rw [h29]; exact Bool.false_ne_true)] at hr
                repeat (first | (with_reducible first | refine mv ?_ | refine m12 rfl ?_ | refine TO.nil ?_) | ((with_reducible first | apply TO.mv | apply TO.bin | apply TO.asg); (repeat (focus (show _ = _; first | exact k1 rfl | exact k2 rfl | (simp only [zz, y38, e_i, Nat.reduceAdd, Nat.reduceMul, Nat.reduceLeDiff, Nat.reduceEqDiff, h16, h26, h27, h29] <;> exact rfl) | exact rfl))); (with_reducible refine TO.here ?_)) | ((with_reducible apply TX.region); (focus (simp only [zl] <;> exact rfl)); (focus rfl); (try dsimp only)) | ((with_reducible apply TX.cond_true); (focus rfl); (focus (first | rfl | (simp only [z1, zn, h16, h26, h27, h29]; done)))) | ((with_reducible apply TX.cond_false); (focus rfl); (focus (first | rfl | (simp only [z1, zn, h16, h26, h27, h29]; done)))) | fail)
                cases hr
                refine ⟨rfl, ?_⟩
                exact Wk.ren [some 0, some 1, some 2] rfl (rv (rv (.rows .nil rfl rfl) rfl) rfl) (by (repeat (first | exact RNs.nil | refine RNs.cons .junk ?_ | refine RNs.cons (.keep rfl rfl) ?_ | refine RNs.cons (.lsl rfl rfl) ?_ | refine RNs.cons (.lsl rfl (by simp only [List.length_set])) ?_ | refine RNs.cons (.lptr rfl) ?_ | refine RNs.cons (.nil rfl) ?_ | refine RNs.cons .nl ?_ | refine RNs.cons (.keep (by simp only [h16, h26, h27, h29]) rfl) ?_ | refine RNs.cons (.tuple' ?_) ?_ | refine RNs.cons (.agg' ?_) ?_)))
          · rw [if_neg (by rw [h26]; exact Bool.false_ne_true)] at hr
            repeat (first | (with_reducible first | refine mv ?_ | refine m12 rfl ?_ | refine TO.nil ?_) | ((with_reducible first | apply TO.pk | apply TO.mv | apply TO.bin | apply TO.asg); (repeat (focus (show _ = _; first | exact k1 rfl | exact k2 rfl | (simp only [zz, y38, e_i, Nat.reduceAdd, Nat.reduceMul, Nat.reduceLeDiff, Nat.reduceEqDiff, h16, h26] <;> exact rfl) | exact rfl))); (with_reducible refine TO.here ?_)) | ((with_reducible apply TO.skip1); (repeat (focus (show _ = _; first | exact k1 rfl | exact k2 rfl | (simp only [zz, y38, e_i, Nat.reduceAdd, Nat.reduceMul, Nat.reduceLeDiff, Nat.reduceEqDiff, twant, zp, zs, h16, h26] <;> exact rfl) | exact rfl))); (with_reducible refine TO.here ?_)) | ((with_reducible apply TX.region); (focus (simp only [zl] <;> exact rfl)); (focus rfl); (try dsimp only)) | ((with_reducible apply TX.cond_true); (focus rfl); (focus (first | rfl | (simp only [z1, zn, h16, h26]; done)))) | ((with_reducible apply TX.cond_false); (focus rfl); (focus (first | rfl | (simp only [z1, zn, h16, h26]; done)))) | fail)
            cases hr
            refine ⟨rfl, ?_⟩
            exact Wk.ren [some 0, some 1, some 2] rfl (rv (rv (.rows .nil rfl rfl) rfl) rfl) (by (repeat (first | exact RNs.nil | refine RNs.cons .junk ?_ | refine RNs.cons (.keep rfl rfl) ?_ | refine RNs.cons (.lsl rfl rfl) ?_ | refine RNs.cons (.lsl rfl (by simp only [List.length_set])) ?_ | refine RNs.cons (.lptr rfl) ?_ | refine RNs.cons (.nil rfl) ?_ | refine RNs.cons .nl ?_ | refine RNs.cons (.keep (by simp only [h16, h26]) rfl) ?_ | refine RNs.cons (.tuple' ?_) ?_ | refine RNs.cons (.agg' ?_) ?_)))
        · try dsimp only
          exact Wk.ren [some 0, some 1, some 2, some 3] rfl (rv (rv (.rows (.rows .nil rfl rfl) rfl rfl) rfl) rfl) (by (repeat (first | exact RNs.nil | refine RNs.cons .junk ?_ | refine RNs.cons (.keep rfl rfl) ?_ | refine RNs.cons (.lsl rfl rfl) ?_ | refine RNs.cons (.lsl rfl (by simp only [List.length_set])) ?_ | refine RNs.cons (.lptr rfl) ?_ | refine RNs.cons (.nil rfl) ?_ | refine RNs.cons .nl ?_ | refine RNs.cons (.keep (by simp only [h16]) rfl) ?_ | refine RNs.cons (.tuple' ?_) ?_ | refine RNs.cons (.agg' ?_) ?_)))
      · rw [if_neg (by rw [h16]; exact Bool.false_ne_true)] at hr
        repeat (first | (with_reducible first | refine mv ?_ | refine m12 rfl ?_) | ((with_reducible apply TX.cond_true); (focus rfl); (focus (first | rfl | (simp only [z1, zn, h16]; done)))) | ((with_reducible apply TX.cond_false); (focus rfl); (focus (first | rfl | (simp only [z1, zn, h16]; done)))) | fail)
        cases hr
        refine ⟨rfl, ?_⟩
        exact Wk.ren [some 0, some 1, some 2] rfl (rv (rv (.rows .nil rfl rfl) rfl) rfl) (by (repeat (first | exact RNs.nil | refine RNs.cons .junk ?_ | refine RNs.cons (.keep rfl rfl) ?_ | refine RNs.cons (.lsl rfl rfl) ?_ | refine RNs.cons (.lsl rfl (by simp only [List.length_set])) ?_ | refine RNs.cons (.lptr rfl) ?_ | refine RNs.cons (.nil rfl) ?_ | refine RNs.cons .nl ?_ | refine RNs.cons (.keep (by simp only [h16]) rfl) ?_ | refine RNs.cons (.tuple' ?_) ?_ | refine RNs.cons (.agg' ?_) ?_)))
    · intro e h; cases h
    · try dsimp only
      repeat (first | (with_reducible first | refine mv ?_ | refine m12 rfl ?_ | refine TO.nil ?_) | ((with_reducible first | apply TO.ld | apply TO.sv); (repeat (focus (show _ = _; first | exact k1 rfl | exact k2 rfl | (simp only [zz, y38, e_i, Nat.reduceAdd, Nat.reduceMul, Nat.reduceLeDiff, Nat.reduceEqDiff, tload, rowOf, partT, List.getElem?_map] <;> exact rfl) | exact rfl))); (with_reducible refine TO.here ?_)) | ((with_reducible apply TX.region); (focus (simp only [zl] <;> exact rfl)); (focus rfl); (try dsimp only)) | fail)
      cases hr
      refine ⟨.inr rfl, _, (by simp only [zy, y38, e_i, tresAll, tres, tload, rowOf, partT]; exact rfl), ?_⟩
      exact wr [some 2] rfl (.rows .nil rfl rfl)
    · try dsimp only
      exact wr [some 0, some 1, none] rfl (rv (rv (.virt .nil) rfl) rfl)
  rfl

end Go.Rex

namespace Go.Rex
open Go.Proofs
open Go Go.Rex Go.RowKit
set_option maxRecDepth 100000
def y39 := an @ag22 <| an @ag3 <| an @fd24_0 <| @fd24_1
theorem ref04_Same_spec {v1 : Int} {v2 : (List Int)} {v3 : Int} {v4 : (List Int)} {v5 : Bool} (hr : ref04_Same v1 v2 v3 v4 = some (v5)) : Spec (lim Try.prog) 32 [.agg [.v (.int .i64 v1), .list 1 (v2.map e_i)], .agg [.v (.int .i64 v3), .list 1 (v4.map e_i)]] ⟨[.v (.bool v5)], []⟩ := by
  unfold ref04_Same at hr
  apply Spec.fn Try.func32 rfl
  focus (simp [Try.f32] <;> exact rfl)
  focus
    repeat (first | (with_reducible first | refine mv ?_ | refine m12 rfl ?_ | refine TO.nil ?_) | ((with_reducible first | apply TO.bf | apply TO.asg | apply TO.fa | apply TO.ld | apply TO.bin | apply TO.mv); (repeat (focus (show _ = _; first | exact k1 rfl | exact k2 rfl | (simp only [zz, y39, e_i, Nat.reduceAdd, Nat.reduceMul, Nat.reduceLeDiff, Nat.reduceEqDiff, tfieldAddr, tload, rowOf, partT, List.getElem?_map] <;> exact rfl) | exact rfl))); (with_reducible refine TO.here ?_)) | ((with_reducible apply TX.region); (focus (simp only [zl] <;> exact rfl)); (focus rfl); (try dsimp only)) | fail)
    rcases Bool.eq_false_or_eq_true ((decide (v1 = v3))) with h1 | h1
    · rw [if_pos h1] at hr
      repeat (first | (with_reducible first | refine mv ?_ | refine m12 rfl ?_ | refine TO.nil ?_) | ((with_reducible first | apply TO.fa | apply TO.ld); (repeat (focus (show _ = _; first | exact k1 rfl | exact k2 rfl | (simp only [zz, y39, e_i, Nat.reduceAdd, Nat.reduceMul, Nat.reduceLeDiff, Nat.reduceEqDiff, tfieldAddr, tload, rowOf, partT, List.getElem?_map, h1] <;> exact rfl) | exact rfl))); (with_reducible refine TO.here ?_)) | ((with_reducible apply TX.region); (focus (simp only [zl] <;> exact rfl)); (focus rfl); (try dsimp only)) | fail)
      obtain ⟨v6, h2, hr⟩ := Option.bind_eq_some_iff.1 hr
      try dsimp only at hr
      apply TO.cal (by first | rfl | (simp only [twant, z1, zp, zs, h1]; done)) rfl goFn20 (base_Ints_spec h2) rfl rfl rfl
      (repeat (focus (show _ = _; first | exact k1 rfl | exact k2 rfl | (simp only [zz, y39, e_i, Nat.reduceAdd, Nat.reduceMul, Nat.reduceLeDiff, Nat.reduceEqDiff, shift, kill, killB, frz, frzB, view, tml, tmlc, List.length_set, h1] <;> exact rfl) | exact rfl)))
      with_reducible apply TO.here
      repeat (first | (with_reducible first | refine mv ?_ | refine m12 rfl ?_ | refine TO.nil ?_) | ((with_reducible first | apply TO.pk | apply TO.asg); (repeat (focus (show _ = _; first | exact k1 rfl | exact k2 rfl | (simp only [zz, y39, e_i, Nat.reduceAdd, Nat.reduceMul, Nat.reduceLeDiff, Nat.reduceEqDiff, h1] <;> exact rfl) | exact rfl))); (with_reducible refine TO.here ?_)) | ((with_reducible apply TX.region); (focus (simp only [zl] <;> exact rfl)); (focus rfl); (try dsimp only)) | fail)
      cases hr
      refine ⟨.inr rfl, _, (by simp only [zy, y39, e_i, tresAll, tres, tload, rowOf, partT, h1]; exact rfl), ?_⟩
      exact Wk.ren [] rfl .nil (by (repeat (first | exact RNs.nil | refine RNs.cons .junk ?_ | refine RNs.cons (.keep rfl rfl) ?_ | refine RNs.cons (.lsl rfl rfl) ?_ | refine RNs.cons (.lsl rfl (by simp only [List.length_set])) ?_ | refine RNs.cons (.lptr rfl) ?_ | refine RNs.cons (.nil rfl) ?_ | refine RNs.cons .nl ?_ | refine RNs.cons (.keep (by simp only [h1]) rfl) ?_ | refine RNs.cons (.tuple' ?_) ?_ | refine RNs.cons (.agg' ?_) ?_)))
    · rw [if_neg (by rw [h1]; exact Bool.false_ne_true)] at hr
      repeat (first | (with_reducible first | refine mv ?_ | refine m12 rfl ?_ | refine TO.nil ?_) | ((with_reducible first | apply TO.pk | apply TO.asg); (repeat (focus (show _ = _; first | exact k1 rfl | exact k2 rfl | (simp only [zz, y39, e_i, Nat.reduceAdd, Nat.reduceMul, Nat.reduceLeDiff, Nat.reduceEqDiff, h1] <;> exact rfl) | exact rfl))); (with_reducible refine TO.here ?_)) | ((with_reducible apply TO.skip1); (repeat (focus (show _ = _; first | exact k1 rfl | exact k2 rfl | (simp only [zz, y39, e_i, Nat.reduceAdd, Nat.reduceMul, Nat.reduceLeDiff, Nat.reduceEqDiff, twant, zp, zs, h1] <;> exact rfl) | exact rfl))); (with_reducible refine TO.here ?_)) | ((with_reducible apply TX.region); (focus (simp only [zl] <;> exact rfl)); (focus rfl); (try dsimp only)) | fail)
      cases hr
      refine ⟨.inr rfl, _, (by simp only [zy, y39, e_i, tresAll, tres, tload, rowOf, partT, h1]; exact rfl), ?_⟩
      exact Wk.ren [] rfl .nil (by (repeat (first | exact RNs.nil | refine RNs.cons .junk ?_ | refine RNs.cons (.keep rfl rfl) ?_ | refine RNs.cons (.lsl rfl rfl) ?_ | refine RNs.cons (.lsl rfl (by simp only [List.length_set])) ?_ | refine RNs.cons (.lptr rfl) ?_ | refine RNs.cons (.nil rfl) ?_ | refine RNs.cons .nl ?_ | refine RNs.cons (.keep (by simp only [h1]) rfl) ?_ | refine RNs.cons (.tuple' ?_) ?_ | refine RNs.cons (.agg' ?_) ?_)))
  rfl

end Go.Rex

namespace Go.Rex
open Go.Proofs
open Go Go.Rex Go.RowKit
set_option maxRecDepth 100000
def y40 := an @ag3 <| an @cs3 <| an @ok3 <| @so22
theorem base_Ints_811f_spec {v1 : (List Int)} {v2 : Bool} (hr : base_Ints_811f v1 = some (v2)) : Spec (lim Try.prog) 20 [.list 1 (v1.map e_i), .v (.slice none 0 0)] ⟨[.v (.bool v2)], []⟩ := by
  unfold base_Ints_811f at hr
  apply Spec.fn Try.func20 rfl
  focus (simp [Try.f20] <;> exact rfl)
  focus
    repeat (first | (with_reducible first | refine mv ?_ | refine m12 rfl ?_ | refine TO.nil ?_) | ((with_reducible first | apply TO.asg | apply TO.mv | apply TO.len); (repeat (focus (show _ = _; first | exact k1 rfl | exact k2 rfl | (simp only [zz, y40, e_i, Nat.reduceAdd, Nat.reduceMul, Nat.reduceLeDiff, Nat.reduceEqDiff, tlen] <;> exact rfl) | exact rfl))); (with_reducible refine TO.here ?_)) | ((with_reducible apply TX.region); (focus (simp only [zl] <;> exact rfl)); (focus rfl); (try dsimp only)) | fail)
    apply TO.pop1 (by first | rfl | (simp only [twant, z1, zp, zs]; done)) (pop_lennil rfl (so22))
    (repeat (focus (show _ = _; first | exact k1 rfl | exact k2 rfl | (simp only [zz, y40, e_i, Nat.reduceAdd, Nat.reduceMul, Nat.reduceLeDiff, Nat.reduceEqDiff] <;> exact rfl) | exact rfl)))
    with_reducible apply TO.here
    repeat (first | (with_reducible first | refine mv ?_ | refine m12 rfl ?_ | refine TO.nil ?_) | ((with_reducible first | apply TO.bin); (repeat (focus (show _ = _; first | exact k1 rfl | exact k2 rfl | (simp only [zz, y40, e_i, Nat.reduceAdd, Nat.reduceMul, Nat.reduceLeDiff, Nat.reduceEqDiff] <;> exact rfl) | exact rfl))); (with_reducible refine TO.here ?_)) | ((with_reducible apply TX.region); (focus (simp only [zl] <;> exact rfl)); (focus rfl); (try dsimp only)) | ((with_reducible apply TX.cond_true); (focus rfl); (focus (first | rfl | (simp only [z1, zn]; done)))) | ((with_reducible apply TX.cond_false); (focus rfl); (focus (first | rfl | (simp only [z1, zn]; done)))) | fail)
    rcases Bool.eq_false_or_eq_true ((decide ((v1.length : Int) ≠ 0))) with h1 | h1
    · rw [if_pos h1] at hr
      repeat (first | (with_reducible first | refine mv ?_ | refine m12 rfl ?_ | refine TO.nil ?_) | ((with_reducible first | apply TO.asg); (repeat (focus (show _ = _; first | exact k1 rfl | exact k2 rfl | (simp only [zz, y40, e_i, Nat.reduceAdd, Nat.reduceMul, Nat.reduceLeDiff, Nat.reduceEqDiff, h1] <;> exact rfl) | exact rfl))); (with_reducible refine TO.here ?_)) | ((with_reducible apply TX.region); (focus (simp only [zl] <;> exact rfl)); (focus rfl); (try dsimp only)) | ((with_reducible apply TX.cond_true); (focus rfl); (focus (first | rfl | (simp only [z1, zn, h1]; done)))) | ((with_reducible apply TX.cond_false); (focus rfl); (focus (first | rfl | (simp only [z1, zn, h1]; done)))) | fail)
      cases hr
      refine ⟨.inr rfl, _, (by simp only [zy, y40, e_i, tresAll, tres, tload, rowOf, partT, h1]; exact rfl), ?_⟩
      exact Wk.ren [] rfl .nil (by (repeat (first | exact RNs.nil | refine RNs.cons .junk ?_ | refine RNs.cons (.keep rfl rfl) ?_ | refine RNs.cons (.lsl rfl rfl) ?_ | refine RNs.cons (.lsl rfl (by simp only [List.length_set])) ?_ | refine RNs.cons (.lptr rfl) ?_ | refine RNs.cons (.nil rfl) ?_ | refine RNs.cons .nl ?_ | refine RNs.cons (.keep (by simp only [h1]) rfl) ?_ | refine RNs.cons (.tuple' ?_) ?_ | refine RNs.cons (.agg' ?_) ?_)))
    · rw [if_neg (by rw [h1]; exact Bool.false_ne_true)] at hr
      repeat (first | (with_reducible first | refine mv ?_ | refine m12 rfl ?_ | refine TO.nil ?_) | ((with_reducible first | apply TO.asg); (repeat (focus (show _ = _; first | exact k1 rfl | exact k2 rfl | (simp only [zz, y40, e_i, Nat.reduceAdd, Nat.reduceMul, Nat.reduceLeDiff, Nat.reduceEqDiff, h1] <;> exact rfl) | exact rfl))); (with_reducible refine TO.here ?_)) | ((with_reducible apply TX.region); (focus (simp only [zl] <;> exact rfl)); (focus rfl); (try dsimp only)) | ((with_reducible apply TX.cond_true); (focus rfl); (focus (first | rfl | (simp only [z1, zn, h1]; done)))) | ((with_reducible apply TX.cond_false); (focus rfl); (focus (first | rfl | (simp only [z1, zn, h1]; done)))) | fail)
      obtain ⟨_, h6, hr⟩ := Option.bind_eq_some_iff.1 hr
      try dsimp only at hr
      refine TX.loopE (step := base_Ints_811f_l1 v1) (x := ()) h6 (fun _ => ⟨.list 1 (v1.map e_i) :: .v (.slice none 0 0) :: .junk :: .junk :: .junk :: .v (.int .i64 0) :: .junk :: .junk :: .junk :: .junk :: .junk :: .junk :: .junk :: .junk :: .junk :: .junk :: .junk :: .junk :: .junk :: .junk :: .junk :: .junk :: .junk :: .junk :: .junk :: .junk :: [], []⟩) (fun _ => (.exit 0, ⟨.junk :: .junk :: .junk :: .junk :: .junk :: .junk :: .junk :: .junk :: .junk :: .junk :: .junk :: .junk :: .junk :: .junk :: .junk :: .junk :: .junk :: .junk :: .junk :: .junk :: .junk :: .junk :: .junk :: .junk :: .junk :: .junk :: [], []⟩)) ?_ ?_ ?_ ?_
      · rintro _ v0 hr
        dsimp only [base_Ints_811f_l1] at hr
        try dsimp only
        repeat (first | (with_reducible first | refine mv ?_ | refine m12 rfl ?_ | refine TO.nil ?_) | ((with_reducible first | apply TO.mv | apply TO.len | apply TO.bin); (repeat (focus (show _ = _; first | exact k1 rfl | exact k2 rfl | (simp only [zz, y40, e_i, Nat.reduceAdd, Nat.reduceMul, Nat.reduceLeDiff, Nat.reduceEqDiff, tlen, h1] <;> exact rfl) | exact rfl))); (with_reducible refine TO.here ?_)) | ((with_reducible apply TX.region); (focus (simp only [zl] <;> exact rfl)); (focus rfl); (try dsimp only)) | ((with_reducible apply TX.cond_true); (focus rfl); (focus (first | rfl | (simp only [z1, zn, h1]; done)))) | ((with_reducible apply TX.cond_false); (focus rfl); (focus (first | rfl | (simp only [z1, zn, h1]; done)))) | fail)
        rcases Bool.eq_false_or_eq_true ((decide (0 < (v1.length : Int)))) with h4 | h4
        · rw [if_pos h4] at hr
          repeat (first | (with_reducible first | refine mv ?_ | refine m12 rfl ?_ | refine TD.nil ?_) | ((with_reducible first | apply TD.mv); (repeat (focus (show _ = _; first | exact k1 rfl | exact k2 rfl | (simp only [zz, y40, e_i, Nat.reduceAdd, Nat.reduceMul, Nat.reduceLeDiff, Nat.reduceEqDiff, h1, h4] <;> exact rfl) | exact rfl))); (with_reducible refine TD.here ?_)) | ((with_reducible apply TX.drawn); (focus decide +kernel); (focus (simp only [zl] <;> exact rfl)); (focus exact rfl); (try dsimp only)) | ((with_reducible apply TX.cond_true); (focus rfl); (focus (first | rfl | (simp only [z1, zn, h1, h4]; done)))) | ((with_reducible apply TX.cond_false); (focus rfl); (focus (first | rfl | (simp only [z1, zn, h1, h4]; done)))) | fail)
          obtain ⟨v4, h5, hr⟩ := Option.bind_eq_some_iff.1 hr
          try dsimp only at hr
          have h5m := tidx_map (f := e_i) h5
          have h5l := getI_lt h5
          try simp only [List.length_set] at h5l
          have h5a := getI_at h5
          cases hr
        · rw [if_neg (by rw [h4]; exact Bool.false_ne_true)] at hr
          repeat (first | (with_reducible first | refine mv ?_ | refine m12 rfl ?_) | ((with_reducible apply TX.cond_true); (focus rfl); (focus (first | rfl | (simp only [z1, zn, h1, h4]; done)))) | ((with_reducible apply TX.cond_false); (focus rfl); (focus (first | rfl | (simp only [z1, zn, h1, h4]; done)))) | fail)
          cases hr
          refine ⟨rfl, ?_⟩
          exact Wk.ren [] rfl .nil (by (repeat (first | exact RNs.nil | refine RNs.cons .junk ?_ | refine RNs.cons (.keep rfl rfl) ?_ | refine RNs.cons (.lsl rfl rfl) ?_ | refine RNs.cons (.lsl rfl (by simp only [List.length_set])) ?_ | refine RNs.cons (.lptr rfl) ?_ | refine RNs.cons (.nil rfl) ?_ | refine RNs.cons .nl ?_ | refine RNs.cons (.keep (by simp only [h1, h4]) rfl) ?_ | refine RNs.cons (.tuple' ?_) ?_ | refine RNs.cons (.agg' ?_) ?_)))
      · intro e h; cases h
      · try dsimp only
        repeat (first | (with_reducible first | refine mv ?_ | refine m12 rfl ?_ | refine TO.nil ?_) | ((with_reducible first | apply TO.asg); (repeat (focus (show _ = _; first | exact k1 rfl | exact k2 rfl | (simp only [zz, y40, e_i, Nat.reduceAdd, Nat.reduceMul, Nat.reduceLeDiff, Nat.reduceEqDiff, h1] <;> exact rfl) | exact rfl))); (with_reducible refine TO.here ?_)) | ((with_reducible apply TX.region); (focus (simp only [zl] <;> exact rfl)); (focus rfl); (try dsimp only)) | fail)
        cases hr
        refine ⟨.inr rfl, _, (by simp only [zy, y40, e_i, tresAll, tres, tload, rowOf, partT, h1]; exact rfl), ?_⟩
        exact Wk.ren [] rfl .nil (by (repeat (first | exact RNs.nil | refine RNs.cons .junk ?_ | refine RNs.cons (.keep rfl rfl) ?_ | refine RNs.cons (.lsl rfl rfl) ?_ | refine RNs.cons (.lsl rfl (by simp only [List.length_set])) ?_ | refine RNs.cons (.lptr rfl) ?_ | refine RNs.cons (.nil rfl) ?_ | refine RNs.cons .nl ?_ | refine RNs.cons (.keep (by simp only [h1]) rfl) ?_ | refine RNs.cons (.tuple' ?_) ?_ | refine RNs.cons (.agg' ?_) ?_)))
      · try dsimp only
        exact Wk.ren [] rfl .nil (by (repeat (first | exact RNs.nil | refine RNs.cons .junk ?_ | refine RNs.cons (.keep rfl rfl) ?_ | refine RNs.cons (.lsl rfl rfl) ?_ | refine RNs.cons (.lsl rfl (by simp only [List.length_set])) ?_ | refine RNs.cons (.lptr rfl) ?_ | refine RNs.cons (.nil rfl) ?_ | refine RNs.cons .nl ?_ | refine RNs.cons (.keep (by simp only [h1]) rfl) ?_ | refine RNs.cons (.tuple' ?_) ?_ | refine RNs.cons (.agg' ?_) ?_)))
  rfl

end Go.Rex

namespace Go.Rex
open Go.Proofs
open Go Go.Rex Go.RowKit
set_option maxRecDepth 100000
def y41 := an @ag22 <| an @ag3 <| an @fd24_0 <| @fd24_1
theorem ref04_Same_de06_spec {v1 : Int} {v2 : (List Int)} {v3 : Int} {v4 : Bool} (hr : ref04_Same_de06 v1 v2 v3 = some (v4)) : Spec (lim Try.prog) 32 [.agg [.v (.int .i64 v1), .list 1 (v2.map e_i)], .agg [.v (.int .i64 v3), .v (.slice none 0 0)]] ⟨[.v (.bool v4)], []⟩ := by
  unfold ref04_Same_de06 at hr
  apply Spec.fn Try.func32 rfl
  focus (simp [Try.f32] <;> exact rfl)
  focus
    repeat (first | (with_reducible first | refine mv ?_ | refine m12 rfl ?_ | refine TO.nil ?_) | ((with_reducible first | apply TO.bf | apply TO.asg | apply TO.fa | apply TO.ld | apply TO.bin | apply TO.mv); (repeat (focus (show _ = _; first | exact k1 rfl | exact k2 rfl | (simp only [zz, y41, e_i, Nat.reduceAdd, Nat.reduceMul, Nat.reduceLeDiff, Nat.reduceEqDiff, tfieldAddr, tload, rowOf, partT, List.getElem?_map] <;> exact rfl) | exact rfl))); (with_reducible refine TO.here ?_)) | ((with_reducible apply TX.region); (focus (simp only [zl] <;> exact rfl)); (focus rfl); (try dsimp only)) | fail)
    rcases Bool.eq_false_or_eq_true ((decide (v1 = v3))) with h1 | h1
    · rw [if_pos h1] at hr
      repeat (first | (with_reducible first | refine mv ?_ | refine m12 rfl ?_ | refine TO.nil ?_) | ((with_reducible first | apply TO.fa | apply TO.ld); (repeat (focus (show _ = _; first | exact k1 rfl | exact k2 rfl | (simp only [zz, y41, e_i, Nat.reduceAdd, Nat.reduceMul, Nat.reduceLeDiff, Nat.reduceEqDiff, tfieldAddr, tload, rowOf, partT, List.getElem?_map, h1] <;> exact rfl) | exact rfl))); (with_reducible refine TO.here ?_)) | ((with_reducible apply TX.region); (focus (simp only [zl] <;> exact rfl)); (focus rfl); (try dsimp only)) | fail)
      obtain ⟨v5, h2, hr⟩ := Option.bind_eq_some_iff.1 hr
      try dsimp only at hr
      apply TO.cal (by first | rfl | (simp only [twant, z1, zp, zs, h1]; done)) rfl goFn20 (base_Ints_811f_spec h2) rfl rfl rfl
      (repeat (focus (show _ = _; first | exact k1 rfl | exact k2 rfl | (simp only [zz, y41, e_i, Nat.reduceAdd, Nat.reduceMul, Nat.reduceLeDiff, Nat.reduceEqDiff, shift, kill, killB, frz, frzB, view, tml, tmlc, List.length_set, h1] <;> exact rfl) | exact rfl)))
      with_reducible apply TO.here
      repeat (first | (with_reducible first | refine mv ?_ | refine m12 rfl ?_ | refine TO.nil ?_) | ((with_reducible first | apply TO.pk | apply TO.asg); (repeat (focus (show _ = _; first | exact k1 rfl | exact k2 rfl | (simp only [zz, y41, e_i, Nat.reduceAdd, Nat.reduceMul, Nat.reduceLeDiff, Nat.reduceEqDiff, h1] <;> exact rfl) | exact rfl))); (with_reducible refine TO.here ?_)) | ((with_reducible apply TX.region); (focus (simp only [zl] <;> exact rfl)); (focus rfl); (try dsimp only)) | fail)
      cases hr
      refine ⟨.inr rfl, _, (by simp only [zy, y41, e_i, tresAll, tres, tload, rowOf, partT, h1]; exact rfl), ?_⟩
      exact Wk.ren [] rfl .nil (by (repeat (first | exact RNs.nil | refine RNs.cons .junk ?_ | refine RNs.cons (.keep rfl rfl) ?_ | refine RNs.cons (.lsl rfl rfl) ?_ | refine RNs.cons (.lsl rfl (by simp only [List.length_set])) ?_ | refine RNs.cons (.lptr rfl) ?_ | refine RNs.cons (.nil rfl) ?_ | refine RNs.cons .nl ?_ | refine RNs.cons (.keep (by simp only [h1]) rfl) ?_ | refine RNs.cons (.tuple' ?_) ?_ | refine RNs.cons (.agg' ?_) ?_)))
    · rw [if_neg (by rw [h1]; exact Bool.false_ne_true)] at hr
      repeat (first | (with_reducible first | refine mv ?_ | refine m12 rfl ?_ | refine TO.nil ?_) | ((with_reducible first | apply TO.pk | apply TO.asg); (repeat (focus (show _ = _; first | exact k1 rfl | exact k2 rfl | (simp only [zz, y41, e_i, Nat.reduceAdd, Nat.reduceMul, Nat.reduceLeDiff, Nat.reduceEqDiff, h1] <;> exact rfl) | exact rfl))); (with_reducible refine TO.here ?_)) | ((with_reducible apply TO.skip1); (repeat (focus (show _ = _; first | exact k1 rfl | exact k2 rfl | (simp only [zz, y41, e_i, Nat.reduceAdd, Nat.reduceMul, Nat.reduceLeDiff, Nat.reduceEqDiff, twant, zp, zs, h1] <;> exact rfl) | exact rfl))); (with_reducible refine TO.here ?_)) | ((with_reducible apply TX.region); (focus (simp only [zl] <;> exact rfl)); (focus rfl); (try dsimp only)) | fail)
      cases hr
      refine ⟨.inr rfl, _, (by simp only [zy, y41, e_i, tresAll, tres, tload, rowOf, partT, h1]; exact rfl), ?_⟩
      exact Wk.ren [] rfl .nil (by (repeat (first | exact RNs.nil | refine RNs.cons .junk ?_ | refine RNs.cons (.keep rfl rfl) ?_ | refine RNs.cons (.lsl rfl rfl) ?_ | refine RNs.cons (.lsl rfl (by simp only [List.length_set])) ?_ | refine RNs.cons (.lptr rfl) ?_ | refine RNs.cons (.nil rfl) ?_ | refine RNs.cons .nl ?_ | refine RNs.cons (.keep (by simp only [h1]) rfl) ?_ | refine RNs.cons (.tuple' ?_) ?_ | refine RNs.cons (.agg' ?_) ?_)))
  rfl

end Go.Rex

namespace Go.Rex
open Go.Proofs
open Go Go.Rex Go.RowKit
set_option maxRecDepth 100000
theorem awake_true : isTrue (ecall Try.prog 1000 50 11 [] []) = true := by decide +kernel
theorem follows : Try.prog.follows .mixedOrders = true := by decide +kernel

end Go.Rex
