/- Proofs that the program's functions do what these plain functions say. -/
import Derived.Test.YtjlembaicmibhaaGB
import Derived.Test.YtjlembaicmibhaaS
set_option linter.unusedSimpArgs false
set_option linter.unusedVariables false
set_option linter.defProp false
namespace Go.Rex
open Go.Proofs
open Go Go.Rex Go.RowKit
set_option maxRecDepth 100000
set_option maxHeartbeats 200000
def y1 := an @ag22 <| an @fd24_0 <| @so22
theorem law08_few_spec {v1 : (List Int)} {v2 : Int} {v3 : Bool} (hr : law08_few v1 v2 = some (v3)) : Spec (lim Try.prog) 16 [.agg [.list 1 (v1.map e_i), .v (.int .i64 v2)]] ⟨[.v (.bool v3)], []⟩ := by
  unfold law08_few at hr
  apply Spec.fn Try.func16 rfl
  focus (simp [Try.f16] <;> exact rfl)
  focus
    repeat (first | (with_reducible first | refine mv ?_ | refine m12 rfl ?_ | refine TO.nil ?_) | ((with_reducible first | apply TO.bf | apply TO.asg | apply TO.fa | apply TO.ld | apply TO.len | apply TO.bin); (repeat (focus (show _ = _; first | exact k1 rfl | exact k2 rfl | (simp only [zz, y1, e_i, Nat.reduceAdd, Nat.reduceMul, Nat.reduceLeDiff, Nat.reduceEqDiff, tfieldAddr, tload, rowOf, partT, List.getElem?_map, tlen] <;> exact rfl) | exact rfl))); (with_reducible refine TO.here ?_)) | ((with_reducible apply TX.region); (focus (simp only [zl] <;> exact rfl)); (focus rfl); (try dsimp only)) | fail)
    cases hr
    refine ⟨.inr rfl, _, (by simp only [zy, y1, e_i, tresAll, tres, tload, rowOf, partT]; exact rfl), ?_⟩
    exact wr [] rfl .nil
  rfl

end Go.Rex

namespace Go.Rex
open Go.Proofs
open Go Go.Rex Go.RowKit
set_option maxRecDepth 100000
set_option maxHeartbeats 200000
def y2 := an @by3 <| an @cs3 <| an @ni22 <| an @so22 <| @zc3
theorem base_CopyInts_spec {v1 : (List Int)} {v2 : (List Int)} (hr : base_CopyInts v1 = some (v2)) : Spec (lim Try.prog) 29 [.list 1 (v1.map e_i)] ⟨[.lsl 0 0 v2.length], [.rows 1 (v2.map e_i)]⟩ := by
  unfold base_CopyInts at hr
  apply Spec.fn Try.func29 rfl
  focus (simp [Try.f29] <;> exact rfl)
  focus
    repeat (first | (with_reducible first | refine mv ?_ | refine m12 rfl ?_ | refine TO.nil ?_) | ((with_reducible first | apply TO.asg); (repeat (focus (show _ = _; first | exact k1 rfl | exact k2 rfl | (simp only [zz, y2, e_i, Nat.reduceAdd, Nat.reduceMul, Nat.reduceLeDiff, Nat.reduceEqDiff] <;> exact rfl) | exact rfl))); (with_reducible refine TO.here ?_)) | ((with_reducible apply TX.region); (focus (simp only [zl] <;> exact rfl)); (focus rfl); (try dsimp only)) | fail)
    apply TO.bl e_i ([] : List Int) (by first | rfl | (simp only [twant, z1, z7] <;> rfl)) rfl (by simp only [zz, y2, e_i, Nat.reduceAdd, Nat.reduceMul, Nat.reduceLeDiff, Nat.reduceEqDiff, tslice, tparts]; exact rfl) rfl rfl
    (repeat (focus (show _ = _; first | exact k1 rfl | exact k2 rfl | (simp only [zz, y2, e_i, Nat.reduceAdd, Nat.reduceMul, Nat.reduceLeDiff, Nat.reduceEqDiff, tslice, tparts] <;> exact rfl) | exact rfl)))
    with_reducible apply TO.here
    repeat (first | (with_reducible first | refine mv ?_ | refine m12 rfl ?_ | refine TO.nil ?_) | ((with_reducible first | apply TO.mv); (repeat (focus (show _ = _; first | exact k1 rfl | exact k2 rfl | (simp only [zz, y2, e_i, Nat.reduceAdd, Nat.reduceMul, Nat.reduceLeDiff, Nat.reduceEqDiff] <;> exact rfl) | exact rfl))); (with_reducible refine TO.here ?_)) | ((with_reducible apply TX.region); (focus (simp only [zl] <;> exact rfl)); (focus rfl); (try dsimp only)) | fail)
    obtain ⟨v3, h1, hr⟩ := Option.bind_eq_some_iff.1 hr
    try dsimp only at hr
    apply TO.ap (f := e_i) (xs := ([] : List Int)) (ys := v1) (by first | rfl | (simp only [twant, z1, z7] <;> rfl)) rfl rfl (by first | rfl | simp only [List.length_set]) rfl rfl so22 ni22 zc3 rfl (by rw [by3]; exact h1) (fun _ => ⟨rfl, rfl, rfl⟩)
    (repeat (focus (show _ = _; first | exact k1 rfl | exact k2 rfl | (simp only [zz, y2, e_i, Nat.reduceAdd, Nat.reduceMul, Nat.reduceLeDiff, Nat.reduceEqDiff, shift, kill, killB, frz, frzB, view, tml, tmlc, List.length_set] <;> exact rfl) | exact rfl)))
    with_reducible apply TO.here
    repeat (first | (with_reducible first | refine mv ?_ | refine m12 rfl ?_ | refine TO.nil ?_) | ((with_reducible first | apply TO.asg); (repeat (focus (show _ = _; first | exact k1 rfl | exact k2 rfl | (simp only [zz, y2, e_i, Nat.reduceAdd, Nat.reduceMul, Nat.reduceLeDiff, Nat.reduceEqDiff] <;> exact rfl) | exact rfl))); (with_reducible refine TO.here ?_)) | ((with_reducible apply TX.region); (focus (simp only [zl] <;> exact rfl)); (focus rfl); (try dsimp only)) | fail)
    cases hr
    refine ⟨.inr rfl, _, (by simp only [zy, y2, e_i, tresAll, tres, tload, rowOf, partT]; exact rfl), ?_⟩
    exact wr [some 0] rfl (.rows .nil rfl rfl)
  rfl

end Go.Rex

namespace Go.Rex
open Go.Proofs
open Go Go.Rex Go.RowKit
set_option maxRecDepth 100000
set_option maxHeartbeats 200000
def y3 := an @ag22 <| an @ag24 <| an @cs22 <| an @cs24 <| an @fd24_0 <| an @ok22 <| an @ok24 <| @zc24
theorem ref08_Copy_spec {v1 : (List Int)} {v2 : Int} {v3 : (List Int)} {v4 : Int} (hr : ref08_Copy v1 v2 = some (v3, v4)) : Spec (lim Try.prog) 12 [.agg [.list 1 (v1.map e_i), .v (.int .i64 v2)]] ⟨[.agg [.lsl 0 0 v3.length, .v (.int .i64 v4)]], [.rows 1 (v3.map e_i)]⟩ := by
  unfold ref08_Copy at hr
  apply Spec.fn Try.func12 rfl
  focus (simp [Try.f12] <;> exact rfl)
  focus
    repeat (first | (with_reducible first | refine mv ?_ | refine m12 rfl ?_ | refine TO.nil ?_) | ((with_reducible first | apply TO.bx (dst := some 1) | apply TO.al | apply TO.fa | apply TO.ld); (repeat (focus (show _ = _; first | exact k1 rfl | exact k2 rfl | (simp only [zz, y3, e_i, Nat.reduceAdd, Nat.reduceMul, Nat.reduceLeDiff, Nat.reduceEqDiff, tfieldAddr, tload, rowOf, partT, List.getElem?_map] <;> exact rfl) | exact rfl))); (with_reducible refine TO.here ?_)) | ((with_reducible apply TX.region); (focus (simp only [zl] <;> exact rfl)); (focus rfl); (try dsimp only)) | fail)
    obtain ⟨v5, h1, hr⟩ := Option.bind_eq_some_iff.1 hr
    try dsimp only at hr
    apply TO.cal (by first | rfl | (simp only [twant, z1, z7] <;> rfl)) rfl goFn29 (base_CopyInts_spec h1) rfl rfl rfl
    (repeat (focus (show _ = _; first | exact k1 rfl | exact k2 rfl | (simp only [zz, y3, e_i, Nat.reduceAdd, Nat.reduceMul, Nat.reduceLeDiff, Nat.reduceEqDiff, shift, kill, killB, frz, frzB, view, tml, tmlc, List.length_set] <;> exact rfl) | exact rfl)))
    with_reducible apply TO.here
    repeat (first | (with_reducible first | refine mv ?_ | refine m12 rfl ?_ | refine TO.nil ?_) | ((with_reducible first | apply TO.fa | apply TO.sv | apply TO.ld); (repeat (focus (show _ = _; first | exact k1 rfl | exact k2 rfl | (simp only [zz, y3, e_i, Nat.reduceAdd, Nat.reduceMul, Nat.reduceLeDiff, Nat.reduceEqDiff, tfieldAddr, tload, rowOf, partT, List.getElem?_map] <;> exact rfl) | exact rfl))); (with_reducible refine TO.here ?_)) | ((with_reducible apply TX.region); (focus (simp only [zl] <;> exact rfl)); (focus rfl); (try dsimp only)) | fail)
    cases hr
    refine ⟨.inr rfl, _, (by simp only [zy, y3, e_i, tresAll, tres, tload, rowOf, partT]; exact rfl), ?_⟩
    exact wr [some 2] rfl (.rows .nil rfl rfl)
  rfl

end Go.Rex

namespace Go.Rex
open Go.Proofs
open Go Go.Rex Go.RowKit
set_option maxRecDepth 100000
set_option maxHeartbeats 200000
def y4 := an @ag24 <| an @by24 <| an @cs24 <| an @ni74 <| an @ok24 <| an @so74 <| an @zc24 <| @wi64_0a1
theorem ref08_CopyAll_spec {v1 : (List ((List Int) × Int))} {v2 : (List ((List Int) × Int))} (hr : ref08_CopyAll v1 = some (v2)) : Spec (lim Try.prog) 39 [.list 2 (v1.map e_Li_i)] ⟨[.lsl 0 0 v2.length], [.rows 2 (v2.map e_Li_i)]⟩ := by
  unfold ref08_CopyAll at hr
  apply Spec.fn Try.func39 rfl
  focus (simp [Try.f39] <;> exact rfl)
  focus
    repeat (first | (with_reducible first | refine mv ?_ | refine m12 rfl ?_ | refine TO.nil ?_) | ((with_reducible first | apply TO.asg); (repeat (focus (show _ = _; first | exact k1 rfl | exact k2 rfl | (simp only [zz, y4, e_Li_i, Nat.reduceAdd, Nat.reduceMul, Nat.reduceLeDiff, Nat.reduceEqDiff] <;> exact rfl) | exact rfl))); (with_reducible refine TO.here ?_)) | ((with_reducible apply TX.region); (focus (simp only [zl] <;> exact rfl)); (focus rfl); (try dsimp only)) | fail)
    apply TX.vt (α := ((List Int) × Int)) e_Li_i 3 2 rfl
    (repeat (focus (show _ = _; first | exact k1 rfl | exact k2 rfl | (simp only [zz, y4, e_Li_i, Nat.reduceAdd, Nat.reduceMul, Nat.reduceLeDiff, Nat.reduceEqDiff] <;> exact rfl) | exact rfl)))
    with_reducible apply TX.here
    repeat (first | (with_reducible first | refine mv ?_ | refine m12 rfl ?_) | fail)
    obtain ⟨v16, h9, hr⟩ := Option.bind_eq_some_iff.1 hr
    try dsimp only at hr
    refine TX.loopE (step := ref08_CopyAll_l1 v1) (x := (([] : List ((List Int) × Int)), 0)) h9 (fun (v3, v4) => ⟨.list 2 (v1.map e_Li_i) :: .junk :: .junk :: .lsl 0 0 v3.length :: .v (.int .i64 v4) :: .junk :: .junk :: .junk :: .junk :: .junk :: .junk :: .junk :: .junk :: .junk :: .junk :: .junk :: .junk :: .junk :: .junk :: .junk :: [], [.rows 2 (v3.map e_Li_i)]⟩) (fun v10 => (.exit 0, ⟨.junk :: .junk :: .junk :: .lsl 0 0 v10.length :: .junk :: .junk :: .junk :: .junk :: .junk :: .junk :: .junk :: .junk :: .junk :: .junk :: .junk :: .junk :: .junk :: .junk :: .junk :: .junk :: [], [.rows 2 (v10.map e_Li_i)]⟩)) ?_ ?_ ?_ ?_
    · rintro ⟨v3, v4⟩ v0 hr
      dsimp only [ref08_CopyAll_l1] at hr
      try dsimp only
      repeat (first | (with_reducible first | refine mv ?_ | refine m12 rfl ?_ | refine TO.nil ?_) | ((with_reducible first | apply TO.mv | apply TO.len | apply TO.bin); (repeat (focus (show _ = _; first | exact k1 rfl | exact k2 rfl | (simp only [zz, y4, e_Li_i, Nat.reduceAdd, Nat.reduceMul, Nat.reduceLeDiff, Nat.reduceEqDiff, tlen] <;> exact rfl) | exact rfl))); (with_reducible refine TO.here ?_)) | ((with_reducible apply TX.region); (focus (simp only [zl] <;> exact rfl)); (focus rfl); (try dsimp only)) | ((with_reducible apply TX.cond_true); (focus rfl); (focus (first | rfl | (simp only [z1, zn]; done)))) | ((with_reducible apply TX.cond_false); (focus rfl); (focus (first | rfl | (simp only [z1, zn]; done)))) | fail)
      rcases Bool.eq_false_or_eq_true ((decide (v4 < (v1.length : Int)))) with h5 | h5
      · rw [if_pos h5] at hr
        repeat (first | (with_reducible first | refine mv ?_ | refine m12 rfl ?_ | refine TO.nil ?_) | ((with_reducible first | apply TO.mv); (repeat (focus (show _ = _; first | exact k1 rfl | exact k2 rfl | (simp only [zz, y4, e_Li_i, Nat.reduceAdd, Nat.reduceMul, Nat.reduceLeDiff, Nat.reduceEqDiff, h5] <;> exact rfl) | exact rfl))); (with_reducible refine TO.here ?_)) | ((with_reducible apply TX.region); (focus (simp only [zl] <;> exact rfl)); (focus rfl); (try dsimp only)) | ((with_reducible apply TX.cond_true); (focus rfl); (focus (first | rfl | (simp only [z1, zn, h5]; done)))) | ((with_reducible apply TX.cond_false); (focus rfl); (focus (first | rfl | (simp only [z1, zn, h5]; done)))) | fail)
        obtain ⟨⟨v11, v12⟩, h6, hr⟩ := Option.bind_eq_some_iff.1 hr
        try dsimp only at hr
        have h6m := tidx_map (f := e_Li_i) h6
        have h6l := getI_lt h6
        try simp only [List.length_set] at h6l
        have h6a := getI_at h6
        repeat (first | (with_reducible first | refine mv ?_ | refine m12 rfl ?_ | refine TO.nil ?_) | ((with_reducible first | apply TO.ia | apply TO.ld); (repeat (focus (show _ = _; first | exact k1 rfl | exact k2 rfl | (simp only [zz, y4, e_Li_i, Nat.reduceAdd, Nat.reduceMul, Nat.reduceLeDiff, Nat.reduceEqDiff, tindexAddr, Nat.zero_add, tload, rowOf, partT, List.getElem?_map, h5, h6m, h6l, h6a] <;> exact rfl) | exact rfl))); (with_reducible refine TO.here ?_)) | ((with_reducible apply TX.region); (focus (simp only [zl] <;> exact rfl)); (focus rfl); (try dsimp only)) | fail)
        obtain ⟨⟨v13, v14⟩, h7, hr⟩ := Option.bind_eq_some_iff.1 hr
        try dsimp only at hr
        apply TO.cal (by first | rfl | (simp only [twant, z1, z7, h5, h6m, h6l, h6a] <;> rfl)) rfl goFn12 (ref08_Copy_spec h7) rfl rfl rfl
        (repeat (focus (show _ = _; first | exact k1 rfl | exact k2 rfl | (simp only [zz, y4, e_Li_i, Nat.reduceAdd, Nat.reduceMul, Nat.reduceLeDiff, Nat.reduceEqDiff, shift, kill, killB, frz, frzB, view, tml, tmlc, List.length_set, h5, h6m, h6l, h6a] <;> exact rfl) | exact rfl)))
        with_reducible apply TO.here
        repeat (first | (with_reducible first | refine mv ?_ | refine m12 rfl ?_ | refine TO.nil ?_) | ((with_reducible apply TX.region); (focus (simp only [zl] <;> exact rfl)); (focus rfl); (try dsimp only)) | fail)
        apply TO.frz 1 rfl rfl
        (repeat (focus (show _ = _; first | exact k1 rfl | exact k2 rfl | (simp only [zz, y4, e_Li_i, Nat.reduceAdd, Nat.reduceMul, Nat.reduceLeDiff, Nat.reduceEqDiff, shift, kill, killB, frz, frzB, view, tml, tmlc, List.length_set, h5, h6m, h6l, h6a] <;> exact rfl) | exact rfl)))
        with_reducible apply TO.here
        repeat (first | (with_reducible first | refine mv ?_ | refine m12 rfl ?_ | refine TO.nil ?_) | ((with_reducible apply TX.region); (focus (simp only [zl] <;> exact rfl)); (focus rfl); (try dsimp only)) | fail)
        apply TO.bm e_Li_i ([(v13, v14)] : List ((List Int) × Int)) (by first | rfl | (simp only [twant, z1, z7, h5, h6m, h6l, h6a] <;> rfl)) rfl (by simp only [zz, y4, e_Li_i, Nat.reduceAdd, Nat.reduceMul, Nat.reduceLeDiff, Nat.reduceEqDiff, tslice, tparts, h5, h6m, h6l, h6a]; exact rfl) rfl
        (repeat (focus (show _ = _; first | exact k1 rfl | exact k2 rfl | (simp only [zz, y4, e_Li_i, Nat.reduceAdd, Nat.reduceMul, Nat.reduceLeDiff, Nat.reduceEqDiff, tslice, tparts, h5, h6m, h6l, h6a] <;> exact rfl) | exact rfl)))
        with_reducible apply TO.here
        repeat (first | (with_reducible first | refine mv ?_ | refine m12 rfl ?_ | refine TO.nil ?_) | ((with_reducible apply TX.region); (focus (simp only [zl] <;> exact rfl)); (focus rfl); (try dsimp only)) | fail)
        obtain ⟨v15, h8, hr⟩ := Option.bind_eq_some_iff.1 hr
        try dsimp only at hr
        apply TO.ap (f := e_Li_i) (xs := v3) (ys := ([(v13, v14)] : List ((List Int) × Int))) (by first | rfl | (simp only [twant, z1, z7, h5, h6m, h6l, h6a] <;> rfl)) rfl rfl (by first | rfl | simp only [List.length_set]) rfl rfl so74 ni74 zc24 rfl (by rw [by24]; exact h8) (fun _ => ⟨rfl, rfl, rfl⟩)
        (repeat (focus (show _ = _; first | exact k1 rfl | exact k2 rfl | (simp only [zz, y4, e_Li_i, Nat.reduceAdd, Nat.reduceMul, Nat.reduceLeDiff, Nat.reduceEqDiff, shift, kill, killB, frz, frzB, view, tml, tmlc, List.length_set, h5, h6m, h6l, h6a] <;> exact rfl) | exact rfl)))
        with_reducible apply TO.here
        repeat (first | (with_reducible first | refine mv ?_ | refine m12 rfl ?_ | refine TO.nil ?_) | ((with_reducible first | apply TO.asg | apply TO.mv | apply TO.bin); (repeat (focus (show _ = _; first | exact k1 rfl | exact k2 rfl | (simp only [zz, y4, e_Li_i, Nat.reduceAdd, Nat.reduceMul, Nat.reduceLeDiff, Nat.reduceEqDiff, h5, h6m, h6l, h6a] <;> exact rfl) | exact rfl))); (with_reducible refine TO.here ?_)) | ((with_reducible apply TX.region); (focus (simp only [zl] <;> exact rfl)); (focus rfl); (try dsimp only)) | fail)
        cases hr
        refine ⟨rfl, ?_⟩
        exact Wk.ren [some 0] rfl (.rows .nil rfl rfl) (by (repeat (first | exact RNs.nil | refine RNs.cons .junk ?_ | refine RNs.cons (.keep rfl rfl) ?_ | refine RNs.cons (.lsl rfl rfl) ?_ | refine RNs.cons (.lsl rfl (by simp only [List.length_set])) ?_ | refine RNs.cons (.lptr rfl) ?_ | refine RNs.cons (.nil rfl) ?_ | refine RNs.cons .nl ?_ | refine RNs.cons (.keep (by simp only [h5]) rfl) ?_ | refine RNs.cons (.tuple' ?_) ?_ | refine RNs.cons (.agg' ?_) ?_)))
      · rw [if_neg (by rw [h5]; exact Bool.false_ne_true)] at hr
        repeat (first | (with_reducible first | refine mv ?_ | refine m12 rfl ?_) | ((with_reducible apply TX.cond_true); (focus rfl); (focus (first | rfl | (simp only [z1, zn, h5]; done)))) | ((with_reducible apply TX.cond_false); (focus rfl); (focus (first | rfl | (simp only [z1, zn, h5]; done)))) | fail)
        cases hr
        refine ⟨rfl, ?_⟩
        exact Wk.ren [some 0] rfl (.rows .nil rfl rfl) (by (repeat (first | exact RNs.nil | refine RNs.cons .junk ?_ | refine RNs.cons (.keep rfl rfl) ?_ | refine RNs.cons (.lsl rfl rfl) ?_ | refine RNs.cons (.lsl rfl (by simp only [List.length_set])) ?_ | refine RNs.cons (.lptr rfl) ?_ | refine RNs.cons (.nil rfl) ?_ | refine RNs.cons .nl ?_ | refine RNs.cons (.keep (by simp only [h5]) rfl) ?_ | refine RNs.cons (.tuple' ?_) ?_ | refine RNs.cons (.agg' ?_) ?_)))
    · intro e h; cases h
    · try dsimp only
      repeat (first | (with_reducible first | refine mv ?_ | refine m12 rfl ?_ | refine TO.nil ?_) | ((with_reducible first | apply TO.mv | apply TO.asg); (repeat (focus (show _ = _; first | exact k1 rfl | exact k2 rfl | (simp only [zz, y4, e_Li_i, Nat.reduceAdd, Nat.reduceMul, Nat.reduceLeDiff, Nat.reduceEqDiff] <;> exact rfl) | exact rfl))); (with_reducible refine TO.here ?_)) | ((with_reducible apply TX.region); (focus (simp only [zl] <;> exact rfl)); (focus rfl); (try dsimp only)) | fail)
      cases hr
      refine ⟨.inr rfl, _, (by simp only [zy, y4, e_Li_i, tresAll, tres, tload, rowOf, partT]; exact rfl), ?_⟩
      exact wr [some 0] rfl (.rows .nil rfl rfl)
    · try dsimp only
      exact wr [some 0] rfl (.rows .nil rfl rfl)
  rfl

end Go.Rex

namespace Go.Rex
open Go.Proofs
open Go Go.Rex Go.RowKit
set_option maxRecDepth 100000
set_option maxHeartbeats 200000
theorem loop_counted_spec {v1 : Int} {v2 : Int} {v3 : Int} {v4 : Int} (hr : loop_counted v1 v2 = some (v3, v4)) : Spec (lim Try.prog) 73 [.v (.int .i64 v1), .v (.int .i64 v2)] ⟨[.func 113 [] [.fptr true [.v (.int .i64 v3)] 0, .fptr true [.v (.int .i64 v4)] 0]], []⟩ := by
  unfold loop_counted at hr
  apply Spec.fn Try.func73 rfl
  focus (simp [Try.f73] <;> exact rfl)
  focus
    repeat (first | (with_reducible first | refine mv ?_ | refine m12 rfl ?_ | refine TO.nil ?_) | ((with_reducible first | apply TO.bf | apply TO.asg | apply TO.mf); (repeat (focus (show _ = _; first | exact k1 rfl | exact k2 rfl | (simp only [zz, Nat.reduceAdd, Nat.reduceMul, Nat.reduceLeDiff, Nat.reduceEqDiff] <;> exact rfl) | exact rfl))); (with_reducible refine TO.here ?_)) | ((with_reducible apply TX.region); (focus (simp only [zl] <;> exact rfl)); (focus rfl); (try dsimp only)) | fail)
    cases hr
    refine ⟨.inr rfl, _, (by simp only [zy, tresAll, tres, tload, rowOf, partT]; exact rfl), ?_⟩
    exact wr [] rfl .nil
  rfl

end Go.Rex

namespace Go.Rex
open Go.Proofs
open Go Go.Rex Go.RowKit
set_option maxRecDepth 100000
set_option maxHeartbeats 200000
theorem loop_refuse_spec {v1 : Bool} {v2 : Int} {v3 : Bool} {v4 : Int} (hr : loop_refuse v1 v2 = some (v3, v4)) : Spec (lim Try.prog) 55 [.v (.bool v1), .v (.int .i64 v2)] ⟨[.func 88 [] [.fptr true [.v (.bool v3)] 0, .fptr true [.v (.int .i64 v4)] 0]], []⟩ := by
  unfold loop_refuse at hr
  apply Spec.fn Try.func55 rfl
  focus (simp [Try.f55] <;> exact rfl)
  focus
    repeat (first | (with_reducible first | refine mv ?_ | refine m12 rfl ?_ | refine TO.nil ?_) | ((with_reducible first | apply TO.bf | apply TO.asg | apply TO.mf); (repeat (focus (show _ = _; first | exact k1 rfl | exact k2 rfl | (simp only [zz, Nat.reduceAdd, Nat.reduceMul, Nat.reduceLeDiff, Nat.reduceEqDiff] <;> exact rfl) | exact rfl))); (with_reducible refine TO.here ?_)) | ((with_reducible apply TX.region); (focus (simp only [zl] <;> exact rfl)); (focus rfl); (try dsimp only)) | fail)
    cases hr
    refine ⟨.inr rfl, _, (by simp only [zy, tresAll, tres, tload, rowOf, partT]; exact rfl), ?_⟩
    exact wr [] rfl .nil
  rfl

end Go.Rex

namespace Go.Rex
open Go.Proofs
open Go Go.Rex Go.RowKit
set_option maxRecDepth 100000
set_option maxHeartbeats 200000
def y5 := an @ag31 <| @ag4
theorem loop_refuse_c1_11f9_spec {v1 : Bool} {v2 : Int} {v3 : Int} (hr : loop_refuse_c1_11f9 v1 v2 = some (v3)) : Spec (lim Try.prog) 88 [.fptr true [.v (.bool v1)] 0, .fptr true [.v (.int .i64 v2)] 0] ⟨[.v (.int .i64 v3)], []⟩ := by
  unfold loop_refuse_c1_11f9 at hr
  apply Spec.fn Try.func88 rfl
  focus (simp [Try.f88] <;> exact rfl)
  focus
    repeat (first | (with_reducible first | refine mv ?_ | refine m12 rfl ?_ | refine TO.nil ?_) | ((with_reducible first | apply TO.asg | apply TO.ld); (repeat (focus (show _ = _; first | exact k1 rfl | exact k2 rfl | (simp only [zz, y5, Nat.reduceAdd, Nat.reduceMul, Nat.reduceLeDiff, Nat.reduceEqDiff, tload, rowOf, partT, List.getElem?_map] <;> exact rfl) | exact rfl))); (with_reducible refine TO.here ?_)) | ((with_reducible apply TX.region); (focus (simp only [zl] <;> exact rfl)); (focus rfl); (try dsimp only)) | ((with_reducible apply TX.cond_true); (focus rfl); (focus (first | rfl | (simp only [z1, zn]; done)))) | ((with_reducible apply TX.cond_false); (focus rfl); (focus (first | rfl | (simp only [z1, zn]; done)))) | fail)
    rcases Bool.eq_false_or_eq_true (v1) with h1 | h1
    · rw [if_pos h1] at hr
      repeat (first | (with_reducible first | refine mv ?_ | refine m12 rfl ?_ | refine TO.nil ?_) | ((with_reducible first | apply TO.ld | apply TO.asg); (repeat (focus (show _ = _; first | exact k1 rfl | exact k2 rfl | (simp only [zz, y5, Nat.reduceAdd, Nat.reduceMul, Nat.reduceLeDiff, Nat.reduceEqDiff, tload, rowOf, partT, List.getElem?_map, h1] <;> exact rfl) | exact rfl))); (with_reducible refine TO.here ?_)) | ((with_reducible apply TX.region); (focus (simp only [zl] <;> exact rfl)); (focus rfl); (try dsimp only)) | ((with_reducible apply TX.cond_true); (focus rfl); (focus (first | rfl | (simp only [z1, zn, h1]; done)))) | ((with_reducible apply TX.cond_false); (focus rfl); (focus (first | rfl | (simp only [z1, zn, h1]; done)))) | fail)
      cases hr
      refine ⟨.inr rfl, _, (by simp only [zy, y5, tresAll, tres, tload, rowOf, partT, h1]; exact rfl), ?_⟩
      exact Wk.ren [] rfl .nil (by (repeat (first | exact RNs.nil | refine RNs.cons .junk ?_ | refine RNs.cons (.keep rfl rfl) ?_ | refine RNs.cons (.lsl rfl rfl) ?_ | refine RNs.cons (.lsl rfl (by simp only [List.length_set])) ?_ | refine RNs.cons (.lptr rfl) ?_ | refine RNs.cons (.nil rfl) ?_ | refine RNs.cons .nl ?_ | refine RNs.cons (.keep (by simp only [h1]) rfl) ?_ | refine RNs.cons (.tuple' ?_) ?_ | refine RNs.cons (.agg' ?_) ?_)))
    · rw [if_neg (by rw [h1]; exact Bool.false_ne_true)] at hr
      repeat (first | (with_reducible first | refine mv ?_ | refine m12 rfl ?_ | refine TO.nil ?_) | ((with_reducible first | apply TO.asg); (repeat (focus (show _ = _; first | exact k1 rfl | exact k2 rfl | (simp only [zz, y5, Nat.reduceAdd, Nat.reduceMul, Nat.reduceLeDiff, Nat.reduceEqDiff, h1] <;> exact rfl) | exact rfl))); (with_reducible refine TO.here ?_)) | ((with_reducible apply TX.region); (focus (simp only [zl] <;> exact rfl)); (focus rfl); (try dsimp only)) | ((with_reducible apply TX.cond_true); (focus rfl); (focus (first | rfl | (simp only [z1, zn, h1]; done)))) | ((with_reducible apply TX.cond_false); (focus rfl); (focus (first | rfl | (simp only [z1, zn, h1]; done)))) | fail)
      cases hr
      refine ⟨.inr rfl, _, (by simp only [zy, y5, tresAll, tres, tload, rowOf, partT, h1]; exact rfl), ?_⟩
      exact Wk.ren [] rfl .nil (by (repeat (first | exact RNs.nil | refine RNs.cons .junk ?_ | refine RNs.cons (.keep rfl rfl) ?_ | refine RNs.cons (.lsl rfl rfl) ?_ | refine RNs.cons (.lsl rfl (by simp only [List.length_set])) ?_ | refine RNs.cons (.lptr rfl) ?_ | refine RNs.cons (.nil rfl) ?_ | refine RNs.cons .nl ?_ | refine RNs.cons (.keep (by simp only [h1]) rfl) ?_ | refine RNs.cons (.tuple' ?_) ?_ | refine RNs.cons (.agg' ?_) ?_)))
  rfl

end Go.Rex

namespace Go.Rex
open Go.Proofs
open Go Go.Rex Go.RowKit
set_option maxRecDepth 100000
set_option maxHeartbeats 200000
def y6 := an @ag94 <| an @cs94 <| an @ok94 <| an @so122 <| an @wi64_0a1 <| @wi64_1a1
theorem loop_firstError_60c4_spec {v1 : Bool} {v2 : Int} {v3 : Bool} {v4 : Int} {v5 : Int} (hr : loop_firstError_60c4 v1 v2 v3 v4 = some (v5)) : Spec (lim Try.prog) 48 [.list 1 [[.func 88 [] [.fptr true [.v (.bool v1)] 0, .fptr true [.v (.int .i64 v2)] 0]], [.func 88 [] [.fptr true [.v (.bool v3)] 0, .fptr true [.v (.int .i64 v4)] 0]]]] ⟨[.v (.int .i64 v5)], []⟩ := by
  unfold loop_firstError_60c4 at hr
  apply Spec.fn Try.func48 rfl
  focus (simp [Try.f48] <;> exact rfl)
  focus
    repeat (first | (with_reducible first | refine mv ?_ | refine m12 rfl ?_ | refine TO.nil ?_) | ((with_reducible first | apply TO.asg | apply TO.mv | apply TO.len); (repeat (focus (show _ = _; first | exact k1 rfl | exact k2 rfl | (simp only [zz, y6, Nat.reduceAdd, Nat.reduceMul, Nat.reduceLeDiff, Nat.reduceEqDiff, tlen] <;> exact rfl) | exact rfl))); (with_reducible refine TO.here ?_)) | ((with_reducible apply TX.region); (focus (simp only [zl] <;> exact rfl)); (focus rfl); (try dsimp only)) | fail)
    refine TX.unroll ?_
    repeat (first | (with_reducible first | refine mv ?_ | refine m12 rfl ?_ | refine TO.nil ?_) | ((with_reducible first | apply TO.bin | apply TO.ia | apply TO.ld | apply TO.asg | apply TO.mv); (repeat (focus (show _ = _; first | exact k1 rfl | exact k2 rfl | (simp only [zz, y6, Nat.reduceAdd, Nat.reduceMul, Nat.reduceLeDiff, Nat.reduceEqDiff, tindexAddr, z5, Int.reduceToNat, Int.reduceLE, Int.reduceLT, Int.cast_ofNat_Int, tload, rowOf, partT, List.getElem?_map] <;> exact rfl) | exact rfl))); (with_reducible refine TO.here ?_)) | ((with_reducible apply TX.region); (focus (simp only [zl] <;> exact rfl)); (focus rfl); (try dsimp only)) | ((with_reducible apply TX.cond_true); (focus rfl); (focus (first | rfl | (simp only [z1, zn]; done)))) | ((with_reducible apply TX.cond_false); (focus rfl); (focus (first | rfl | (simp only [z1, zn]; done)))) | fail)
    obtain ⟨v6, h1, hr⟩ := Option.bind_eq_some_iff.1 hr
    try dsimp only at hr
    apply TO.cal (by first | rfl | (simp only [twant, z1, z7] <;> rfl)) rfl goFn88 (loop_refuse_c1_11f9_spec h1) rfl rfl rfl
    (repeat (focus (show _ = _; first | exact k1 rfl | exact k2 rfl | (simp only [zz, y6, Nat.reduceAdd, Nat.reduceMul, Nat.reduceLeDiff, Nat.reduceEqDiff, shift, kill, killB, frz, frzB, view, tml, tmlc, List.length_set] <;> exact rfl) | exact rfl)))
    with_reducible apply TO.here
    repeat (first | (with_reducible first | refine mv ?_ | refine m12 rfl ?_ | refine TO.nil ?_) | ((with_reducible first | apply TO.asg | apply TO.mv | apply TO.bin); (repeat (focus (show _ = _; first | exact k1 rfl | exact k2 rfl | (simp only [zz, y6, Nat.reduceAdd, Nat.reduceMul, Nat.reduceLeDiff, Nat.reduceEqDiff] <;> exact rfl) | exact rfl))); (with_reducible refine TO.here ?_)) | ((with_reducible apply TX.region); (focus (simp only [zl] <;> exact rfl)); (focus rfl); (try dsimp only)) | ((with_reducible apply TX.cond_true); (focus rfl); (focus (first | rfl | (simp only [z1, zn]; done)))) | ((with_reducible apply TX.cond_false); (focus rfl); (focus (first | rfl | (simp only [z1, zn]; done)))) | fail)
    rcases Bool.eq_false_or_eq_true ((decide (v6 ≠ 0))) with h2 | h2
    · rw [if_pos h2] at hr
      repeat (first | (with_reducible first | refine mv ?_ | refine m12 rfl ?_ | refine TO.nil ?_) | ((with_reducible first | apply TO.mv | apply TO.asg); (repeat (focus (show _ = _; first | exact k1 rfl | exact k2 rfl | (simp only [zz, y6, Nat.reduceAdd, Nat.reduceMul, Nat.reduceLeDiff, Nat.reduceEqDiff, h2] <;> exact rfl) | exact rfl))); (with_reducible refine TO.here ?_)) | ((with_reducible apply TX.region); (focus (simp only [zl] <;> exact rfl)); (focus rfl); (try dsimp only)) | ((with_reducible apply TX.cond_true); (focus rfl); (focus (first | rfl | (simp only [z1, zn, h2]; done)))) | ((with_reducible apply TX.cond_false); (focus rfl); (focus (first | rfl | (simp only [z1, zn, h2]; done)))) | fail)
      cases hr
      refine ⟨.inr rfl, _, (by simp only [zy, y6, tresAll, tres, tload, rowOf, partT, h2]; exact rfl), ?_⟩
      exact Wk.ren [] rfl .nil (by (repeat (first | exact RNs.nil | refine RNs.cons .junk ?_ | refine RNs.cons (.keep rfl rfl) ?_ | refine RNs.cons (.lsl rfl rfl) ?_ | refine RNs.cons (.lsl rfl (by simp only [List.length_set])) ?_ | refine RNs.cons (.lptr rfl) ?_ | refine RNs.cons (.nil rfl) ?_ | refine RNs.cons .nl ?_ | refine RNs.cons (.keep (by simp only [h2]) rfl) ?_ | refine RNs.cons (.tuple' ?_) ?_ | refine RNs.cons (.agg' ?_) ?_)))
    · rw [if_neg (by rw [h2]; exact Bool.false_ne_true)] at hr
      repeat (first | (with_reducible first | refine mv ?_ | refine m12 rfl ?_ | refine TO.nil ?_) | ((with_reducible first | apply TO.bin | apply TO.mv); (repeat (focus (show _ = _; first | exact k1 rfl | exact k2 rfl | (simp only [zz, y6, Nat.reduceAdd, Nat.reduceMul, Nat.reduceLeDiff, Nat.reduceEqDiff, h2] <;> exact rfl) | exact rfl))); (with_reducible refine TO.here ?_)) | ((with_reducible apply TX.region); (focus (simp only [zl] <;> exact rfl)); (focus rfl); (try dsimp only)) | ((with_reducible apply TX.cond_true); (focus rfl); (focus (first | rfl | (simp only [z1, zn, h2]; done)))) | ((with_reducible apply TX.cond_false); (focus rfl); (focus (first | rfl | (simp only [z1, zn, h2]; done)))) | fail)
      refine TX.unroll ?_
      repeat (first | (with_reducible first | refine mv ?_ | refine m12 rfl ?_ | refine TO.nil ?_) | ((with_reducible first | apply TO.bin | apply TO.ia | apply TO.ld | apply TO.asg | apply TO.mv); (repeat (focus (show _ = _; first | exact k1 rfl | exact k2 rfl | (simp only [zz, y6, Nat.reduceAdd, Nat.reduceMul, Nat.reduceLeDiff, Nat.reduceEqDiff, tindexAddr, z5, Int.reduceToNat, Int.reduceLE, Int.reduceLT, Int.cast_ofNat_Int, tload, rowOf, partT, List.getElem?_map, h2] <;> exact rfl) | exact rfl))); (with_reducible refine TO.here ?_)) | ((with_reducible apply TX.region); (focus (simp only [zl] <;> exact rfl)); (focus rfl); (try dsimp only)) | ((with_reducible apply TX.cond_true); (focus rfl); (focus (first | rfl | (simp only [z1, zn, h2]; done)))) | ((with_reducible apply TX.cond_false); (focus rfl); (focus (first | rfl | (simp only [z1, zn, h2]; done)))) | fail)
      obtain ⟨v7, h3, hr⟩ := Option.bind_eq_some_iff.1 hr
      try dsimp only at hr
      apply TO.cal (by first | rfl | (simp only [twant, z1, z7, h2] <;> rfl)) rfl goFn88 (loop_refuse_c1_11f9_spec h3) rfl rfl rfl
      (repeat (focus (show _ = _; first | exact k1 rfl | exact k2 rfl | (simp only [zz, y6, Nat.reduceAdd, Nat.reduceMul, Nat.reduceLeDiff, Nat.reduceEqDiff, shift, kill, killB, frz, frzB, view, tml, tmlc, List.length_set, h2] <;> exact rfl) | exact rfl)))
      with_reducible apply TO.here
      repeat (first | (with_reducible first | refine mv ?_ | refine m12 rfl ?_ | refine TO.nil ?_) | ((with_reducible first | apply TO.asg | apply TO.mv | apply TO.bin); (repeat (focus (show _ = _; first | exact k1 rfl | exact k2 rfl | (simp only [zz, y6, Nat.reduceAdd, Nat.reduceMul, Nat.reduceLeDiff, Nat.reduceEqDiff, h2] <;> exact rfl) | exact rfl))); (with_reducible refine TO.here ?_)) | ((with_reducible apply TX.region); (focus (simp only [zl] <;> exact rfl)); (focus rfl); (try dsimp only)) | ((with_reducible apply TX.cond_true); (focus rfl); (focus (first | rfl | (simp only [z1, zn, h2]; done)))) | ((with_reducible apply TX.cond_false); (focus rfl); (focus (first | rfl | (simp only [z1, zn, h2]; done)))) | fail)
      rcases Bool.eq_false_or_eq_true ((decide (v7 ≠ 0))) with h4 | h4
      · rw [if_pos h4] at hr
        repeat (first | (with_reducible first | refine mv ?_ | refine m12 rfl ?_ | refine TO.nil ?_) | ((with_reducible first | apply TO.mv | apply TO.asg); (repeat (focus (show _ = _; first | exact k1 rfl | exact k2 rfl | (simp only [zz, y6, Nat.reduceAdd, Nat.reduceMul, Nat.reduceLeDiff, Nat.reduceEqDiff, h2, h4] <;> exact rfl) | exact rfl))); (with_reducible refine TO.here ?_)) | ((with_reducible apply TX.region); (focus (simp only [zl] <;> exact rfl)); (focus rfl); (try dsimp only)) | ((with_reducible apply TX.cond_true); (focus rfl); (focus (first | rfl | (simp only [z1, zn, h2, h4]; done)))) | ((with_reducible apply TX.cond_false); (focus rfl); (focus (first | rfl | (simp only [z1, zn, h2, h4]; done)))) | fail)
        cases hr
        refine ⟨.inr rfl, _, (by simp only [zy, y6, tresAll, tres, tload, rowOf, partT, h2, h4]; exact rfl), ?_⟩
        exact Wk.ren [] rfl .nil (by (repeat (first | exact RNs.nil | refine RNs.cons .junk ?_ | refine RNs.cons (.keep rfl rfl) ?_ | refine RNs.cons (.lsl rfl rfl) ?_ | refine RNs.cons (.lsl rfl (by simp only [List.length_set])) ?_ | refine RNs.cons (.lptr rfl) ?_ | refine RNs.cons (.nil rfl) ?_ | refine RNs.cons .nl ?_ | refine RNs.cons (.keep (by simp only [h2, h4]) rfl) ?_ | refine RNs.cons (.tuple' ?_) ?_ | refine RNs.cons (.agg' ?_) ?_)))
      · rw [if_neg (by rw [h4]; exact Bool.false_ne_true)] at hr
        repeat (first | (with_reducible first | refine mv ?_ | refine m12 rfl ?_ | refine TO.nil ?_) | ((with_reducible first | apply TO.bin | apply TO.mv); (repeat (focus (show _ = _; first | exact k1 rfl | exact k2 rfl | (simp only [zz, y6, Nat.reduceAdd, Nat.reduceMul, Nat.reduceLeDiff, Nat.reduceEqDiff, h2, h4] <;> exact rfl) | exact rfl))); (with_reducible refine TO.here ?_)) | ((with_reducible apply TX.region); (focus (simp only [zl] <;> exact rfl)); (focus rfl); (try dsimp only)) | ((with_reducible apply TX.cond_true); (focus rfl); (focus (first | rfl | (simp only [z1, zn, h2, h4]; done)))) | ((with_reducible apply TX.cond_false); (focus rfl); (focus (first | rfl | (simp only [z1, zn, h2, h4]; done)))) | fail)
        refine TX.unroll ?_
        repeat (first | (with_reducible first | refine mv ?_ | refine m12 rfl ?_ | refine TO.nil ?_) | ((with_reducible first | apply TO.bin | apply TO.asg); (repeat (focus (show _ = _; first | exact k1 rfl | exact k2 rfl | (simp only [zz, y6, Nat.reduceAdd, Nat.reduceMul, Nat.reduceLeDiff, Nat.reduceEqDiff, h2, h4] <;> exact rfl) | exact rfl))); (with_reducible refine TO.here ?_)) | ((with_reducible apply TX.region); (focus (simp only [zl] <;> exact rfl)); (focus rfl); (try dsimp only)) | ((with_reducible apply TX.cond_true); (focus rfl); (focus (first | rfl | (simp only [z1, zn, h2, h4]; done)))) | ((with_reducible apply TX.cond_false); (focus rfl); (focus (first | rfl | (simp only [z1, zn, h2, h4]; done)))) | fail)
        cases hr
        refine ⟨.inr rfl, _, (by simp only [zy, y6, tresAll, tres, tload, rowOf, partT, h2, h4]; exact rfl), ?_⟩
        exact Wk.ren [] rfl .nil (by (repeat (first | exact RNs.nil | refine RNs.cons .junk ?_ | refine RNs.cons (.keep rfl rfl) ?_ | refine RNs.cons (.lsl rfl rfl) ?_ | refine RNs.cons (.lsl rfl (by simp only [List.length_set])) ?_ | refine RNs.cons (.lptr rfl) ?_ | refine RNs.cons (.nil rfl) ?_ | refine RNs.cons .nl ?_ | refine RNs.cons (.keep (by simp only [h2, h4]) rfl) ?_ | refine RNs.cons (.tuple' ?_) ?_ | refine RNs.cons (.agg' ?_) ?_)))
  rfl

end Go.Rex

namespace Go.Rex
open Go.Proofs
open Go Go.Rex Go.RowKit
set_option maxRecDepth 100000
set_option maxHeartbeats 200000
def y7 := an @ag3 <| an @cs94 <| an @so122 <| @zc94
theorem loop_counted_c1_b585_spec {v1 : Int} {v2 : Int} {v3 : Int} (hr : loop_counted_c1_b585 v1 v2 = some (v3)) : Spec (lim Try.prog) 113 [.fptr true [.v (.int .i64 v1)] 0, .fptr true [.v (.int .i64 v2)] 0] ⟨[.v (.int .i64 v3)], []⟩ := by
  unfold loop_counted_c1_b585 at hr
  apply Spec.fn Try.func113 rfl
  focus (simp [Try.f113] <;> exact rfl)
  focus
    repeat (first | (with_reducible first | refine mv ?_ | refine m12 rfl ?_ | refine TO.nil ?_) | ((with_reducible first | apply TO.asg); (repeat (focus (show _ = _; first | exact k1 rfl | exact k2 rfl | (simp only [zz, y7, Nat.reduceAdd, Nat.reduceMul, Nat.reduceLeDiff, Nat.reduceEqDiff] <;> exact rfl) | exact rfl))); (with_reducible refine TO.here ?_)) | ((with_reducible apply TX.region); (focus (simp only [zl] <;> exact rfl)); (focus rfl); (try dsimp only)) | with_reducible refine TD.nil ?_ | ((with_reducible first | apply TD.ld | apply TD.ldw | apply TD.bin); (repeat (focus (show _ = _; first | exact k1 rfl | exact k2 rfl | (simp only [zz, y7, Nat.reduceAdd, Nat.reduceMul, Nat.reduceLeDiff, Nat.reduceEqDiff, tload, rowOf, partT, List.getElem?_map] <;> exact rfl) | exact rfl))); (with_reducible refine TD.here ?_)) | ((with_reducible apply TX.drawn); (focus decide +kernel); (focus (simp only [zl] <;> exact rfl)); (focus exact rfl); (try dsimp only)) | fail)
    obtain ⟨⟨v4, v5⟩, h1, hr⟩ := Option.bind_eq_some_iff.1 hr
    try dsimp only at hr
    first | apply TD.cal (by first | rfl | (simp only [twant, z1, z7] <;> rfl)) rfl goFn55 (loop_refuse_spec h1) rfl rfl rfl | apply TD.calw (by first | rfl | (simp only [twant, z1, z7] <;> rfl)) rfl goFn55 (loop_refuse_spec h1) rfl rfl rfl rfl
    (repeat (focus (show _ = _; first | exact k1 rfl | exact k2 rfl | (simp only [zz, y7, Nat.reduceAdd, Nat.reduceMul, Nat.reduceLeDiff, Nat.reduceEqDiff, shift, kill, killB, frz, frzB, view, tml, tmlc, List.length_set] <;> exact rfl) | exact rfl)))
    with_reducible apply TD.here
    repeat (first | (with_reducible first | refine mv ?_ | refine m12 rfl ?_ | refine TD.nil ?_) | ((with_reducible first | apply TD.ld | apply TD.ldw | apply TD.bin); (repeat (focus (show _ = _; first | exact k1 rfl | exact k2 rfl | (simp only [zz, y7, Nat.reduceAdd, Nat.reduceMul, Nat.reduceLeDiff, Nat.reduceEqDiff, tload, rowOf, partT, List.getElem?_map] <;> exact rfl) | exact rfl))); (with_reducible refine TD.here ?_)) | ((with_reducible apply TX.drawn); (focus decide +kernel); (focus (simp only [zl] <;> exact rfl)); (focus exact rfl); (try dsimp only)) | fail)
    obtain ⟨⟨v6, v7⟩, h2, hr⟩ := Option.bind_eq_some_iff.1 hr
    try dsimp only at hr
    first | apply TD.cal (by first | rfl | (simp only [twant, z1, z7] <;> rfl)) rfl goFn55 (loop_refuse_spec h2) rfl rfl rfl | apply TD.calw (by first | rfl | (simp only [twant, z1, z7] <;> rfl)) rfl goFn55 (loop_refuse_spec h2) rfl rfl rfl rfl
    (repeat (focus (show _ = _; first | exact k1 rfl | exact k2 rfl | (simp only [zz, y7, Nat.reduceAdd, Nat.reduceMul, Nat.reduceLeDiff, Nat.reduceEqDiff, shift, kill, killB, frz, frzB, view, tml, tmlc, List.length_set] <;> exact rfl) | exact rfl)))
    with_reducible apply TD.here
    repeat (first | (with_reducible first | refine mv ?_ | refine m12 rfl ?_ | refine TD.nil ?_) | ((with_reducible first | apply TD.bs); (repeat (focus (show _ = _; first | exact k1 rfl | exact k2 rfl | (simp only [zz, y7, Nat.reduceAdd, Nat.reduceMul, Nat.reduceLeDiff, Nat.reduceEqDiff, tslice, tparts] <;> exact rfl) | exact rfl))); (with_reducible refine TD.here ?_)) | ((with_reducible apply TX.drawn); (focus decide +kernel); (focus (simp only [zl] <;> exact rfl)); (focus exact rfl); (try dsimp only)) | fail)
    obtain ⟨v8, h3, hr⟩ := Option.bind_eq_some_iff.1 hr
    try dsimp only at hr
    first | apply TD.cal (by first | rfl | (simp only [twant, z1, z7] <;> rfl)) rfl goFn48 (loop_firstError_60c4_spec h3) rfl rfl rfl | apply TD.calw (by first | rfl | (simp only [twant, z1, z7] <;> rfl)) rfl goFn48 (loop_firstError_60c4_spec h3) rfl rfl rfl rfl
    (repeat (focus (show _ = _; first | exact k1 rfl | exact k2 rfl | (simp only [zz, y7, Nat.reduceAdd, Nat.reduceMul, Nat.reduceLeDiff, Nat.reduceEqDiff, shift, kill, killB, frz, frzB, view, tml, tmlc, List.length_set] <;> exact rfl) | exact rfl)))
    with_reducible apply TD.here
    repeat (first | (with_reducible first | refine mv ?_ | refine m12 rfl ?_ | refine TD.nil ?_) | ((with_reducible first | apply TD.asg); (repeat (focus (show _ = _; first | exact k1 rfl | exact k2 rfl | (simp only [zz, y7, Nat.reduceAdd, Nat.reduceMul, Nat.reduceLeDiff, Nat.reduceEqDiff] <;> exact rfl) | exact rfl))); (with_reducible refine TD.here ?_)) | ((with_reducible apply TX.drawn); (focus decide +kernel); (focus (simp only [zl] <;> exact rfl)); (focus exact rfl); (try dsimp only)) | fail)
    cases hr
    refine ⟨.inr rfl, _, (by simp only [zy, y7, tresAll, tres, tload, rowOf, partT]; exact rfl), ?_⟩
    exact wr [] rfl .nil
  rfl

end Go.Rex

namespace Go.Rex
open Go.Proofs
open Go Go.Rex Go.RowKit
set_option maxRecDepth 100000
set_option maxHeartbeats 200000
theorem loop_each_2037_spec {v1 : Int} {v2 : (List Int)} {v3 : Int} {v4 : Int} {v5 : Int} {v6 : (List Int)} {v7 : Int} {v8 : Int} (hr : loop_each_2037 v1 v2 v3 v4 = some (v5, v6, v7, v8)) : Spec (lim Try.prog) 91 [.v (.int .i64 v1), .func 119 [] [.fptr true [.list 1 (v2.map e_i)] 0, .fptr true [.v (.int .i64 v3)] 0, .fptr true [.v (.int .i64 v4)] 0]] ⟨[.func 122 [] [.fptr true [.v (.int .i64 v5)] 0, .fptr true [.func 119 [] [.fptr true [.list 1 (v6.map e_i)] 0, .fptr true [.v (.int .i64 v7)] 0, .fptr true [.v (.int .i64 v8)] 0]] 0]], []⟩ := by
  unfold loop_each_2037 at hr
  apply Spec.fn Try.func91 rfl
  focus (simp [Try.f91] <;> exact rfl)
  focus
    repeat (first | (with_reducible first | refine mv ?_ | refine m12 rfl ?_ | refine TO.nil ?_) | ((with_reducible first | apply TO.bf | apply TO.asg | apply TO.mf); (repeat (focus (show _ = _; first | exact k1 rfl | exact k2 rfl | (simp only [zz, e_i, Nat.reduceAdd, Nat.reduceMul, Nat.reduceLeDiff, Nat.reduceEqDiff] <;> exact rfl) | exact rfl))); (with_reducible refine TO.here ?_)) | ((with_reducible apply TX.region); (focus (simp only [zl] <;> exact rfl)); (focus rfl); (try dsimp only)) | fail)
    cases hr
    refine ⟨.inr rfl, _, (by simp only [zy, e_i, tresAll, tres, tload, rowOf, partT]; exact rfl), ?_⟩
    exact wr [] rfl .nil
  rfl

end Go.Rex

namespace Go.Rex
open Go.Proofs
open Go Go.Rex Go.RowKit
set_option maxRecDepth 100000
set_option maxHeartbeats 200000
def y8 := an @ag22 <| @so22
theorem loop_allWithin_spec {v1 : (List Int)} {v2 : Int} {v3 : Int} {v4 : Int} {v5 : (List Int)} {v6 : Int} {v7 : Int} (hr : loop_allWithin v1 v2 v3 = some (v4, v5, v6, v7)) : Spec (lim Try.prog) 80 [.list 1 (v1.map e_i), .v (.int .i64 v2), .v (.int .i64 v3)] ⟨[.func 122 [] [.fptr true [.v (.int .i64 v4)] 0, .fptr true [.func 119 [] [.fptr true [.list 1 (v5.map e_i)] 0, .fptr true [.v (.int .i64 v6)] 0, .fptr true [.v (.int .i64 v7)] 0]] 0]], []⟩ := by
  unfold loop_allWithin at hr
  apply Spec.fn Try.func80 rfl
  focus (simp [Try.f80] <;> exact rfl)
  focus
    repeat (first | (with_reducible first | refine mv ?_ | refine m12 rfl ?_ | refine TO.nil ?_) | ((with_reducible first | apply TO.bf | apply TO.asg | apply TO.ld | apply TO.len | apply TO.mf); (repeat (focus (show _ = _; first | exact k1 rfl | exact k2 rfl | (simp only [zz, y8, e_i, Nat.reduceAdd, Nat.reduceMul, Nat.reduceLeDiff, Nat.reduceEqDiff, tload, rowOf, partT, List.getElem?_map, tlen] <;> exact rfl) | exact rfl))); (with_reducible refine TO.here ?_)) | ((with_reducible apply TX.region); (focus (simp only [zl] <;> exact rfl)); (focus rfl); (try dsimp only)) | fail)
    obtain ⟨⟨v8, v9, v10, v11⟩, h1, hr⟩ := Option.bind_eq_some_iff.1 hr
    try dsimp only at hr
    apply TO.cal (by first | rfl | (simp only [twant, z1, z7] <;> rfl)) rfl goFn91 (loop_each_2037_spec h1) rfl rfl rfl
    (repeat (focus (show _ = _; first | exact k1 rfl | exact k2 rfl | (simp only [zz, y8, e_i, Nat.reduceAdd, Nat.reduceMul, Nat.reduceLeDiff, Nat.reduceEqDiff, shift, kill, killB, frz, frzB, view, tml, tmlc, List.length_set] <;> exact rfl) | exact rfl)))
    with_reducible apply TO.here
    repeat (first | (with_reducible first | refine mv ?_ | refine m12 rfl ?_ | refine TO.nil ?_) | ((with_reducible first | apply TO.asg); (repeat (focus (show _ = _; first | exact k1 rfl | exact k2 rfl | (simp only [zz, y8, e_i, Nat.reduceAdd, Nat.reduceMul, Nat.reduceLeDiff, Nat.reduceEqDiff] <;> exact rfl) | exact rfl))); (with_reducible refine TO.here ?_)) | ((with_reducible apply TX.region); (focus (simp only [zl] <;> exact rfl)); (focus rfl); (try dsimp only)) | fail)
    cases hr
    refine ⟨.inr rfl, _, (by simp only [zy, y8, e_i, tresAll, tres, tload, rowOf, partT]; exact rfl), ?_⟩
    exact wr [] rfl .nil
  rfl

end Go.Rex

namespace Go.Rex
open Go.Proofs
open Go Go.Rex Go.RowKit
set_option maxRecDepth 100000
set_option maxHeartbeats 200000
theorem loop_within_spec {v1 : Int} {v2 : Int} {v3 : Int} {v4 : Bool} {v5 : Int} (hr : loop_within v1 v2 v3 = some (v4, v5)) : Spec (lim Try.prog) 50 [.v (.int .i64 v1), .v (.int .i64 v2), .v (.int .i64 v3)] ⟨[.func 88 [] [.fptr true [.v (.bool v4)] 0, .fptr true [.v (.int .i64 v5)] 0]], []⟩ := by
  unfold loop_within at hr
  apply Spec.fn Try.func50 rfl
  focus (simp [Try.f50] <;> exact rfl)
  focus
    repeat (first | (with_reducible first | refine mv ?_ | refine m12 rfl ?_ | refine TO.nil ?_) | ((with_reducible first | apply TO.asg | apply TO.mv | apply TO.bin); (repeat (focus (show _ = _; first | exact k1 rfl | exact k2 rfl | (simp only [zz, Nat.reduceAdd, Nat.reduceMul, Nat.reduceLeDiff, Nat.reduceEqDiff] <;> exact rfl) | exact rfl))); (with_reducible refine TO.here ?_)) | ((with_reducible apply TX.region); (focus (simp only [zl] <;> exact rfl)); (focus rfl); (try dsimp only)) | fail)
    rcases Bool.eq_false_or_eq_true ((decide (v1 < v2))) with h1 | h1
    · rw [if_pos h1] at hr
      repeat (first | (with_reducible first | refine mv ?_ | refine m12 rfl ?_ | refine TO.nil ?_) | ((with_reducible first | apply TO.pk); (repeat (focus (show _ = _; first | exact k1 rfl | exact k2 rfl | (simp only [zz, Nat.reduceAdd, Nat.reduceMul, Nat.reduceLeDiff, Nat.reduceEqDiff, h1] <;> exact rfl) | exact rfl))); (with_reducible refine TO.here ?_)) | ((with_reducible apply TO.skip1); (repeat (focus (show _ = _; first | exact k1 rfl | exact k2 rfl | (simp only [zz, Nat.reduceAdd, Nat.reduceMul, Nat.reduceLeDiff, Nat.reduceEqDiff, twant, zp, zs, h1] <;> exact rfl) | exact rfl))); (with_reducible refine TO.here ?_)) | ((with_reducible apply TX.region); (focus (simp only [zl] <;> exact rfl)); (focus rfl); (try dsimp only)) | fail)
      obtain ⟨⟨v6, v7⟩, h2, hr⟩ := Option.bind_eq_some_iff.1 hr
      try dsimp only at hr
      apply TO.cal (by first | rfl | (simp only [twant, z1, z7, h1] <;> rfl)) rfl goFn55 (loop_refuse_spec h2) rfl rfl rfl
      (repeat (focus (show _ = _; first | exact k1 rfl | exact k2 rfl | (simp only [zz, Nat.reduceAdd, Nat.reduceMul, Nat.reduceLeDiff, Nat.reduceEqDiff, shift, kill, killB, frz, frzB, view, tml, tmlc, List.length_set, h1] <;> exact rfl) | exact rfl)))
      with_reducible apply TO.here
      repeat (first | (with_reducible first | refine mv ?_ | refine m12 rfl ?_ | refine TO.nil ?_) | ((with_reducible first | apply TO.asg); (repeat (focus (show _ = _; first | exact k1 rfl | exact k2 rfl | (simp only [zz, Nat.reduceAdd, Nat.reduceMul, Nat.reduceLeDiff, Nat.reduceEqDiff, h1] <;> exact rfl) | exact rfl))); (with_reducible refine TO.here ?_)) | ((with_reducible apply TX.region); (focus (simp only [zl] <;> exact rfl)); (focus rfl); (try dsimp only)) | fail)
      cases hr
      refine ⟨.inr rfl, _, (by simp only [zy, tresAll, tres, tload, rowOf, partT, h1]; exact rfl), ?_⟩
      exact Wk.ren [] rfl .nil (by (repeat (first | exact RNs.nil | refine RNs.cons .junk ?_ | refine RNs.cons (.keep rfl rfl) ?_ | refine RNs.cons (.lsl rfl rfl) ?_ | refine RNs.cons (.lsl rfl (by simp only [List.length_set])) ?_ | refine RNs.cons (.lptr rfl) ?_ | refine RNs.cons (.nil rfl) ?_ | refine RNs.cons .nl ?_ | refine RNs.cons (.keep (by simp only [h1]) rfl) ?_ | refine RNs.cons (.tuple' ?_) ?_ | refine RNs.cons (.agg' ?_) ?_)))
    · rw [if_neg (by rw [h1]; exact Bool.false_ne_true)] at hr
      repeat (first | (with_reducible first | refine mv ?_ | refine m12 rfl ?_ | refine TO.nil ?_) | ((with_reducible first | apply TO.mv | apply TO.bin | apply TO.pk); (repeat (focus (show _ = _; first | exact k1 rfl | exact k2 rfl | (simp only [zz, Nat.reduceAdd, Nat.reduceMul, Nat.reduceLeDiff, Nat.reduceEqDiff, h1] <;> exact rfl) | exact rfl))); (with_reducible refine TO.here ?_)) | ((with_reducible apply TX.region); (focus (simp only [zl] <;> exact rfl)); (focus rfl); (try dsimp only)) | fail)
      obtain ⟨⟨v8, v9⟩, h3, hr⟩ := Option.bind_eq_some_iff.1 hr
      try dsimp only at hr
      apply TO.cal (by first | rfl | (simp only [twant, z1, z7, h1] <;> rfl)) rfl goFn55 (loop_refuse_spec h3) rfl rfl rfl
      (repeat (focus (show _ = _; first | exact k1 rfl | exact k2 rfl | (simp only [zz, Nat.reduceAdd, Nat.reduceMul, Nat.reduceLeDiff, Nat.reduceEqDiff, shift, kill, killB, frz, frzB, view, tml, tmlc, List.length_set, h1] <;> exact rfl) | exact rfl)))
      with_reducible apply TO.here
      repeat (first | (with_reducible first | refine mv ?_ | refine m12 rfl ?_ | refine TO.nil ?_) | ((with_reducible first | apply TO.asg); (repeat (focus (show _ = _; first | exact k1 rfl | exact k2 rfl | (simp only [zz, Nat.reduceAdd, Nat.reduceMul, Nat.reduceLeDiff, Nat.reduceEqDiff, h1] <;> exact rfl) | exact rfl))); (with_reducible refine TO.here ?_)) | ((with_reducible apply TX.region); (focus (simp only [zl] <;> exact rfl)); (focus rfl); (try dsimp only)) | fail)
      cases hr
      refine ⟨.inr rfl, _, (by simp only [zy, tresAll, tres, tload, rowOf, partT, h1]; exact rfl), ?_⟩
      exact Wk.ren [] rfl .nil (by (repeat (first | exact RNs.nil | refine RNs.cons .junk ?_ | refine RNs.cons (.keep rfl rfl) ?_ | refine RNs.cons (.lsl rfl rfl) ?_ | refine RNs.cons (.lsl rfl (by simp only [List.length_set])) ?_ | refine RNs.cons (.lptr rfl) ?_ | refine RNs.cons (.nil rfl) ?_ | refine RNs.cons .nl ?_ | refine RNs.cons (.keep (by simp only [h1]) rfl) ?_ | refine RNs.cons (.tuple' ?_) ?_ | refine RNs.cons (.agg' ?_) ?_)))
  rfl

end Go.Rex

namespace Go.Rex
open Go.Proofs
open Go Go.Rex Go.RowKit
set_option maxRecDepth 100000
set_option maxHeartbeats 200000
def y9 := an @ag22 <| an @ag3 <| an @cs3 <| an @fd24_0 <| an @fd86_0 <| an @ok3 <| @so22
theorem loop_feedback_check_c1_431b_spec {v1 : (List Int)} {v2 : Int} {v3 : Int} (hr : loop_feedback_check_c1_431b v1 v2 = some (v3)) : Spec (lim Try.prog) 79 [.fptr true [.list 1 (v1.map e_i), .v (.int .i64 v2)] 0] ⟨[.v (.int .i64 v3)], []⟩ := by
  unfold loop_feedback_check_c1_431b at hr
  apply Spec.fn Try.func79 rfl
  focus (simp [Try.f79] <;> exact rfl)
  focus
    repeat (first | (with_reducible first | refine mv ?_ | refine m12 rfl ?_ | refine TO.nil ?_) | ((with_reducible first | apply TO.asg | apply TO.fa | apply TO.ld); (repeat (focus (show _ = _; first | exact k1 rfl | exact k2 rfl | (simp only [zz, y9, e_i, Nat.reduceAdd, Nat.reduceMul, Nat.reduceLeDiff, Nat.reduceEqDiff, tfieldAddr, tload, rowOf, partT, List.getElem?_map] <;> exact rfl) | exact rfl))); (with_reducible refine TO.here ?_)) | ((with_reducible apply TX.region); (focus (simp only [zl] <;> exact rfl)); (focus rfl); (try dsimp only)) | fail)
    obtain ⟨v4, h1, hr⟩ := Option.bind_eq_some_iff.1 hr
    try dsimp only at hr
    have h1m := tidx_map (f := e_i) h1
    have h1l := getI_lt h1
    try simp only [List.length_set] at h1l
    have h1a := getI_at h1
    repeat (first | (with_reducible first | refine mv ?_ | refine m12 rfl ?_ | refine TO.nil ?_) | ((with_reducible first | apply TO.ia | apply TO.ld | apply TO.bin); (repeat (focus (show _ = _; first | exact k1 rfl | exact k2 rfl | (simp only [zz, y9, e_i, Nat.reduceAdd, Nat.reduceMul, Nat.reduceLeDiff, Nat.reduceEqDiff, tindexAddr, Nat.zero_add, tload, rowOf, partT, List.getElem?_map, h1m, h1l, h1a] <;> exact rfl) | exact rfl))); (with_reducible refine TO.here ?_)) | ((with_reducible apply TX.region); (focus (simp only [zl] <;> exact rfl)); (focus rfl); (try dsimp only)) | fail)
    obtain ⟨⟨v5, v6⟩, h2, hr⟩ := Option.bind_eq_some_iff.1 hr
    try dsimp only at hr
    apply TO.cal (by first | rfl | (simp only [twant, z1, z7, h1m, h1l, h1a] <;> rfl)) rfl goFn55 (loop_refuse_spec h2) rfl rfl rfl
    (repeat (focus (show _ = _; first | exact k1 rfl | exact k2 rfl | (simp only [zz, y9, e_i, Nat.reduceAdd, Nat.reduceMul, Nat.reduceLeDiff, Nat.reduceEqDiff, shift, kill, killB, frz, frzB, view, tml, tmlc, List.length_set, h1m, h1l, h1a] <;> exact rfl) | exact rfl)))
    with_reducible apply TO.here
    repeat (first | (with_reducible first | refine mv ?_ | refine m12 rfl ?_ | refine TO.nil ?_) | ((with_reducible apply TX.region); (focus (simp only [zl] <;> exact rfl)); (focus rfl); (try dsimp only)) | fail)
    obtain ⟨v7, h3, hr⟩ := Option.bind_eq_some_iff.1 hr
    try dsimp only at hr
    apply TO.cal (by first | rfl | (simp only [twant, z1, z7, h1m, h1l, h1a] <;> rfl)) rfl goFn88 (loop_refuse_c1_11f9_spec h3) rfl rfl rfl
    (repeat (focus (show _ = _; first | exact k1 rfl | exact k2 rfl | (simp only [zz, y9, e_i, Nat.reduceAdd, Nat.reduceMul, Nat.reduceLeDiff, Nat.reduceEqDiff, shift, kill, killB, frz, frzB, view, tml, tmlc, List.length_set, h1m, h1l, h1a] <;> exact rfl) | exact rfl)))
    with_reducible apply TO.here
    repeat (first | (with_reducible first | refine mv ?_ | refine m12 rfl ?_ | refine TO.nil ?_) | ((with_reducible first | apply TO.asg); (repeat (focus (show _ = _; first | exact k1 rfl | exact k2 rfl | (simp only [zz, y9, e_i, Nat.reduceAdd, Nat.reduceMul, Nat.reduceLeDiff, Nat.reduceEqDiff, h1m, h1l, h1a] <;> exact rfl) | exact rfl))); (with_reducible refine TO.here ?_)) | ((with_reducible apply TX.region); (focus (simp only [zl] <;> exact rfl)); (focus rfl); (try dsimp only)) | fail)
    cases hr
    refine ⟨.inr rfl, _, (by simp only [zy, y9, e_i, tresAll, tres, tload, rowOf, partT, h1m, h1l, h1a]; exact rfl), ?_⟩
    exact wr [] rfl .nil
  rfl

end Go.Rex

namespace Go.Rex
open Go.Proofs
open Go Go.Rex Go.RowKit
set_option maxRecDepth 100000
set_option maxHeartbeats 200000
def y10 := an @ag22 <| an @ag3 <| an @cs3 <| an @ok3 <| @so22
theorem loop_allWithin_c1_ea58_spec {v1 : Int} {v2 : (List Int)} {v3 : Int} {v4 : Int} {v5 : Int} (hr : loop_allWithin_c1_ea58 v1 v2 v3 v4 = some (v5)) : Spec (lim Try.prog) 119 [.v (.int .i64 v1), .fptr true [.list 1 (v2.map e_i)] 0, .fptr true [.v (.int .i64 v3)] 0, .fptr true [.v (.int .i64 v4)] 0] ⟨[.v (.int .i64 v5)], []⟩ := by
  unfold loop_allWithin_c1_ea58 at hr
  apply Spec.fn Try.func119 rfl
  focus (simp [Try.f119] <;> exact rfl)
  focus
    repeat (first | (with_reducible first | refine mv ?_ | refine m12 rfl ?_ | refine TO.nil ?_) | ((with_reducible first | apply TO.asg); (repeat (focus (show _ = _; first | exact k1 rfl | exact k2 rfl | (simp only [zz, y10, e_i, Nat.reduceAdd, Nat.reduceMul, Nat.reduceLeDiff, Nat.reduceEqDiff] <;> exact rfl) | exact rfl))); (with_reducible refine TO.here ?_)) | ((with_reducible apply TX.region); (focus (simp only [zl] <;> exact rfl)); (focus rfl); (try dsimp only)) | with_reducible refine TD.nil ?_ | ((with_reducible first | apply TD.ld | apply TD.ldw | apply TD.mv); (repeat (focus (show _ = _; first | exact k1 rfl | exact k2 rfl | (simp only [zz, y10, e_i, Nat.reduceAdd, Nat.reduceMul, Nat.reduceLeDiff, Nat.reduceEqDiff, tload, rowOf, partT, List.getElem?_map] <;> exact rfl) | exact rfl))); (with_reducible refine TD.here ?_)) | ((with_reducible apply TX.drawn); (focus decide +kernel); (focus (simp only [zl] <;> exact rfl)); (focus exact rfl); (try dsimp only)) | fail)
    obtain ⟨v6, h1, hr⟩ := Option.bind_eq_some_iff.1 hr
    try dsimp only at hr
    have h1m := tidx_map (f := e_i) h1
    have h1l := getI_lt h1
    try simp only [List.length_set] at h1l
    have h1a := getI_at h1
    repeat (first | (with_reducible first | refine mv ?_ | refine m12 rfl ?_ | refine TD.nil ?_) | ((with_reducible first | apply TD.ia | apply TD.ld | apply TD.ldw); (repeat (focus (show _ = _; first | exact k1 rfl | exact k2 rfl | (simp only [zz, y10, e_i, Nat.reduceAdd, Nat.reduceMul, Nat.reduceLeDiff, Nat.reduceEqDiff, tindexAddr, Nat.zero_add, tload, rowOf, partT, List.getElem?_map, h1m, h1l, h1a] <;> exact rfl) | exact rfl))); (with_reducible refine TD.here ?_)) | ((with_reducible apply TX.drawn); (focus decide +kernel); (focus (simp only [zl] <;> exact rfl)); (focus exact rfl); (try dsimp only)) | fail)
    obtain ⟨⟨v7, v8⟩, h2, hr⟩ := Option.bind_eq_some_iff.1 hr
    try dsimp only at hr
    first | apply TD.cal (by first | rfl | (simp only [twant, z1, z7, h1m, h1l, h1a] <;> rfl)) rfl goFn50 (loop_within_spec h2) rfl rfl rfl | apply TD.calw (by first | rfl | (simp only [twant, z1, z7, h1m, h1l, h1a] <;> rfl)) rfl goFn50 (loop_within_spec h2) rfl rfl rfl rfl
    (repeat (focus (show _ = _; first | exact k1 rfl | exact k2 rfl | (simp only [zz, y10, e_i, Nat.reduceAdd, Nat.reduceMul, Nat.reduceLeDiff, Nat.reduceEqDiff, shift, kill, killB, frz, frzB, view, tml, tmlc, List.length_set, h1m, h1l, h1a] <;> exact rfl) | exact rfl)))
    with_reducible apply TD.here
    repeat (first | (with_reducible first | refine mv ?_ | refine m12 rfl ?_ | refine TD.nil ?_) | ((with_reducible apply TX.drawn); (focus decide +kernel); (focus (simp only [zl] <;> exact rfl)); (focus exact rfl); (try dsimp only)) | fail)
    obtain ⟨v9, h3, hr⟩ := Option.bind_eq_some_iff.1 hr
    try dsimp only at hr
    first | apply TD.cal (by first | rfl | (simp only [twant, z1, z7, h1m, h1l, h1a] <;> rfl)) rfl goFn88 (loop_refuse_c1_11f9_spec h3) rfl rfl rfl | apply TD.calw (by first | rfl | (simp only [twant, z1, z7, h1m, h1l, h1a] <;> rfl)) rfl goFn88 (loop_refuse_c1_11f9_spec h3) rfl rfl rfl rfl
    (repeat (focus (show _ = _; first | exact k1 rfl | exact k2 rfl | (simp only [zz, y10, e_i, Nat.reduceAdd, Nat.reduceMul, Nat.reduceLeDiff, Nat.reduceEqDiff, shift, kill, killB, frz, frzB, view, tml, tmlc, List.length_set, h1m, h1l, h1a] <;> exact rfl) | exact rfl)))
    with_reducible apply TD.here
    repeat (first | (with_reducible first | refine mv ?_ | refine m12 rfl ?_ | refine TD.nil ?_) | ((with_reducible first | apply TD.asg); (repeat (focus (show _ = _; first | exact k1 rfl | exact k2 rfl | (simp only [zz, y10, e_i, Nat.reduceAdd, Nat.reduceMul, Nat.reduceLeDiff, Nat.reduceEqDiff, h1m, h1l, h1a] <;> exact rfl) | exact rfl))); (with_reducible refine TD.here ?_)) | ((with_reducible apply TX.drawn); (focus decide +kernel); (focus (simp only [zl] <;> exact rfl)); (focus exact rfl); (try dsimp only)) | fail)
    cases hr
    refine ⟨.inr rfl, _, (by simp only [zy, y10, e_i, tresAll, tres, tload, rowOf, partT, h1m, h1l, h1a]; exact rfl), ?_⟩
    exact wr [] rfl .nil
  rfl

end Go.Rex

namespace Go.Rex
open Go.Proofs
open Go Go.Rex Go.RowKit
set_option maxRecDepth 100000
set_option maxHeartbeats 200000
def y11 := an @ag125 <| an @ag3 <| @wi64_0a1
theorem loop_each_c1_2344_spec {v1 : Int} {v2 : (List Int)} {v3 : Int} {v4 : Int} {v5 : Int} (hr : loop_each_c1_2344 v1 v2 v3 v4 = some (v5)) : Spec (lim Try.prog) 122 [.fptr true [.v (.int .i64 v1)] 0, .fptr true [.func 119 [] [.fptr true [.list 1 (v2.map e_i)] 0, .fptr true [.v (.int .i64 v3)] 0, .fptr true [.v (.int .i64 v4)] 0]] 0] ⟨[.v (.int .i64 v5)], []⟩ := by
  unfold loop_each_c1_2344 at hr
  apply Spec.fn Try.func122 rfl
  focus (simp [Try.f122] <;> exact rfl)
  focus
    repeat (first | (with_reducible first | refine mv ?_ | refine m12 rfl ?_ | refine TO.nil ?_) | ((with_reducible first | apply TO.asg | apply TO.ld | apply TO.mv); (repeat (focus (show _ = _; first | exact k1 rfl | exact k2 rfl | (simp only [zz, y11, e_i, Nat.reduceAdd, Nat.reduceMul, Nat.reduceLeDiff, Nat.reduceEqDiff, tload, rowOf, partT, List.getElem?_map] <;> exact rfl) | exact rfl))); (with_reducible refine TO.here ?_)) | ((with_reducible apply TX.region); (focus (simp only [zl] <;> exact rfl)); (focus rfl); (try dsimp only)) | fail)
    obtain ⟨v10, h7, hr⟩ := Option.bind_eq_some_iff.1 hr
    refine TX.loopE (step := loop_each_c1_2344_l1 v1 v2 v3 v4) (x := 0) h7 (fun v6 => ⟨.junk :: .fptr true [.func 119 [] [.fptr true [.list 1 (v2.map e_i)] 0, .fptr true [.v (.int .i64 v3)] 0, .fptr true [.v (.int .i64 v4)] 0]] 0 :: .junk :: .junk :: .junk :: .v (.int .i64 v1) :: .v (.int .i64 v6) :: .junk :: .junk :: .junk :: .junk :: .junk :: .junk :: .junk :: .junk :: .junk :: [], []⟩) (fun e => match e with | (.inl v8) => (.ret, ⟨.junk :: .junk :: .v (.int .i64 v8) :: .junk :: .junk :: .junk :: .junk :: .junk :: .junk :: .junk :: .junk :: .junk :: .junk :: .junk :: .junk :: .junk :: [], []⟩) | (.inr _) => (.exit 0, ⟨.junk :: .junk :: .junk :: .junk :: .junk :: .junk :: .junk :: .junk :: .junk :: .junk :: .junk :: .junk :: .junk :: .junk :: .junk :: .junk :: [], []⟩)) ?_ ?_ ?_ ?_
    · rintro v6 v0 hr
      dsimp only [loop_each_c1_2344_l1] at hr
      try dsimp only
      repeat (first | (with_reducible first | refine mv ?_ | refine m12 rfl ?_ | refine TO.nil ?_) | ((with_reducible first | apply TO.bin); (repeat (focus (show _ = _; first | exact k1 rfl | exact k2 rfl | (simp only [zz, y11, e_i, Nat.reduceAdd, Nat.reduceMul, Nat.reduceLeDiff, Nat.reduceEqDiff] <;> exact rfl) | exact rfl))); (with_reducible refine TO.here ?_)) | ((with_reducible apply TX.region); (focus (simp only [zl] <;> exact rfl)); (focus rfl); (try dsimp only)) | ((with_reducible apply TX.cond_true); (focus rfl); (focus (first | rfl | (simp only [z1, zn]; done)))) | ((with_reducible apply TX.cond_false); (focus rfl); (focus (first | rfl | (simp only [z1, zn]; done)))) | fail)
      rcases Bool.eq_false_or_eq_true ((decide (v6 < v1))) with h4 | h4
      · rw [if_pos h4] at hr
        repeat (first | (with_reducible first | refine mv ?_ | refine m12 rfl ?_ | refine TO.nil ?_) | ((with_reducible first | apply TO.mv | apply TO.asg | apply TO.ld); (repeat (focus (show _ = _; first | exact k1 rfl | exact k2 rfl | (simp only [zz, y11, e_i, Nat.reduceAdd, Nat.reduceMul, Nat.reduceLeDiff, Nat.reduceEqDiff, tload, rowOf, partT, List.getElem?_map, h4] <;> exact rfl) | exact rfl))); (with_reducible refine TO.here ?_)) | ((with_reducible apply TX.region); (focus (simp only [zl] <;> exact rfl)); (focus rfl); (try dsimp only)) | ((with_reducible apply TX.cond_true); (focus rfl); (focus (first | rfl | (simp only [z1, zn, h4]; done)))) | ((with_reducible apply TX.cond_false); (focus rfl); (focus (first | rfl | (simp only [z1, zn, h4]; done)))) | fail)
        obtain ⟨v9, h5, hr⟩ := Option.bind_eq_some_iff.1 hr
        try dsimp only at hr
        apply TO.cal (by first | rfl | (simp only [twant, z1, z7, h4] <;> rfl)) rfl goFn119 (loop_allWithin_c1_ea58_spec h5) rfl rfl rfl
        (repeat (focus (show _ = _; first | exact k1 rfl | exact k2 rfl | (simp only [zz, y11, e_i, Nat.reduceAdd, Nat.reduceMul, Nat.reduceLeDiff, Nat.reduceEqDiff, shift, kill, killB, frz, frzB, view, tml, tmlc, List.length_set, h4] <;> exact rfl) | exact rfl)))
        with_reducible apply TO.here
        repeat (first | (with_reducible first | refine mv ?_ | refine m12 rfl ?_ | refine TO.nil ?_) | ((with_reducible first | apply TO.asg | apply TO.mv | apply TO.bin); (repeat (focus (show _ = _; first | exact k1 rfl | exact k2 rfl | (simp only [zz, y11, e_i, Nat.reduceAdd, Nat.reduceMul, Nat.reduceLeDiff, Nat.reduceEqDiff, h4] <;> exact rfl) | exact rfl))); (with_reducible refine TO.here ?_)) | ((with_reducible apply TX.region); (focus (simp only [zl] <;> exact rfl)); (focus rfl); (try dsimp only)) | ((with_reducible apply TX.cond_true); (focus rfl); (focus (first | rfl | (simp only [z1, zn, h4]; done)))) | ((with_reducible apply TX.cond_false); (focus rfl); (focus (first | rfl | (simp only [z1, zn, h4]; done)))) | fail)
        rcases Bool.eq_false_or_eq_true ((decide (v9 ≠ 0))) with h6 | h6
        · rw [if_pos h6] at hr
          repeat (first | (with_reducible first | refine mv ?_ | refine m12 rfl ?_ | refine TO.nil ?_) | ((with_reducible first | apply TO.mv | apply TO.asg); (repeat (focus (show _ = _; first | exact k1 rfl | exact k2 rfl | (simp only [zz, y11, e_i, Nat.reduceAdd, Nat.reduceMul, Nat.reduceLeDiff, Nat.reduceEqDiff, h4, h6] <;> exact rfl) | exact rfl))); (with_reducible refine TO.here ?_)) | ((with_reducible apply TX.region); (focus (simp only [zl] <;> exact rfl)); (focus rfl); (try dsimp only)) | ((with_reducible apply TX.cond_true); (focus rfl); (focus (first | rfl | (simp only [z1, zn, h4, h6]; done)))) | ((with_reducible apply TX.cond_false); (focus rfl); (focus (first | rfl | (simp only [z1, zn, h4, h6]; done)))) | fail)
          cases hr
          refine ⟨rfl, ?_⟩
          exact Wk.ren [] rfl .nil (by (repeat (first | exact RNs.nil | refine RNs.cons .junk ?_ | refine RNs.cons (.keep rfl rfl) ?_ | refine RNs.cons (.lsl rfl rfl) ?_ | refine RNs.cons (.lsl rfl (by simp only [List.length_set])) ?_ | refine RNs.cons (.lptr rfl) ?_ | refine RNs.cons (.nil rfl) ?_ | refine RNs.cons .nl ?_ | refine RNs.cons (.keep (by simp only [h4, h6]) rfl) ?_ | refine RNs.cons (.tuple' ?_) ?_ | refine RNs.cons (.agg' ?_) ?_)))
        · rw [if_neg (by rw [h6]; exact Bool.false_ne_true)] at hr
          repeat (first | (with_reducible first | refine mv ?_ | refine m12 rfl ?_ | refine TO.nil ?_) | ((with_reducible first | apply TO.bin | apply TO.mv); (repeat (focus (show _ = _; first | exact k1 rfl | exact k2 rfl | (simp only [zz, y11, e_i, Nat.reduceAdd, Nat.reduceMul, Nat.reduceLeDiff, Nat.reduceEqDiff, h4, h6] <;> exact rfl) | exact rfl))); (with_reducible refine TO.here ?_)) | ((with_reducible apply TX.region); (focus (simp only [zl] <;> exact rfl)); (focus rfl); (try dsimp only)) | ((with_reducible apply TX.cond_true); (focus rfl); (focus (first | rfl | (simp only [z1, zn, h4, h6]; done)))) | ((with_reducible apply TX.cond_false); (focus rfl); (focus (first | rfl | (simp only [z1, zn, h4, h6]; done)))) | fail)
          cases hr
          refine ⟨rfl, ?_⟩
          exact Wk.ren [] rfl .nil (by (repeat (first | exact RNs.nil | refine RNs.cons .junk ?_ | refine RNs.cons (.keep rfl rfl) ?_ | refine RNs.cons (.lsl rfl rfl) ?_ | refine RNs.cons (.lsl rfl (by simp only [List.length_set])) ?_ | refine RNs.cons (.lptr rfl) ?_ | refine RNs.cons (.nil rfl) ?_ | refine RNs.cons .nl ?_ | refine RNs.cons (.keep (by simp only [h4, h6]) rfl) ?_ | refine RNs.cons (.tuple' ?_) ?_ | refine RNs.cons (.agg' ?_) ?_)))
      · rw [if_neg (by rw [h4]; exact Bool.false_ne_true)] at hr
        repeat (first | (with_reducible first | refine mv ?_ | refine m12 rfl ?_) | ((with_reducible apply TX.cond_true); (focus rfl); (focus (first | rfl | (simp only [z1, zn, h4]; done)))) | ((with_reducible apply TX.cond_false); (focus rfl); (focus (first | rfl | (simp only [z1, zn, h4]; done)))) | fail)
        cases hr
        refine ⟨rfl, ?_⟩
        exact Wk.ren [] rfl .nil (by (repeat (first | exact RNs.nil | refine RNs.cons .junk ?_ | refine RNs.cons (.keep rfl rfl) ?_ | refine RNs.cons (.lsl rfl rfl) ?_ | refine RNs.cons (.lsl rfl (by simp only [List.length_set])) ?_ | refine RNs.cons (.lptr rfl) ?_ | refine RNs.cons (.nil rfl) ?_ | refine RNs.cons .nl ?_ | refine RNs.cons (.keep (by simp only [h4]) rfl) ?_ | refine RNs.cons (.tuple' ?_) ?_ | refine RNs.cons (.agg' ?_) ?_)))
    · intro e h; rcases e with _ | e <;> cases h
    · try dsimp only
      rcases v10 with v11 | _
      · try dsimp only at hr
        try dsimp only
        repeat (first | (with_reducible first | refine mv ?_ | refine m12 rfl ?_) | fail)
        cases hr
        refine ⟨.inr rfl, _, (by simp only [zy, y11, e_i, tresAll, tres, tload, rowOf, partT]; exact rfl), ?_⟩
        exact wr [] rfl .nil
      · try dsimp only at hr
        try dsimp only
        repeat (first | (with_reducible first | refine mv ?_ | refine m12 rfl ?_ | refine TO.nil ?_) | ((with_reducible first | apply TO.asg); (repeat (focus (show _ = _; first | exact k1 rfl | exact k2 rfl | (simp only [zz, y11, e_i, Nat.reduceAdd, Nat.reduceMul, Nat.reduceLeDiff, Nat.reduceEqDiff] <;> exact rfl) | exact rfl))); (with_reducible refine TO.here ?_)) | ((with_reducible apply TX.region); (focus (simp only [zl] <;> exact rfl)); (focus rfl); (try dsimp only)) | fail)
        cases hr
        refine ⟨.inr rfl, _, (by simp only [zy, y11, e_i, tresAll, tres, tload, rowOf, partT]; exact rfl), ?_⟩
        exact wr [] rfl .nil
    · try dsimp only
      exact wr [] rfl .nil
  rfl

end Go.Rex

namespace Go.Rex
open Go.Proofs
open Go Go.Rex Go.RowKit
set_option maxRecDepth 100000
set_option maxHeartbeats 1000000
def y12 := an @ag94 <| an @cs94 <| an @ok94 <| an @so122 <| an @wi64_0a1 <| an @wi64_1a1 <| an @wi64_2a1 <| @wi64_3a1
theorem loop_firstError_2d9c_spec {v1 : Int} {v2 : Int} {v3 : (List Int)} {v4 : Int} {v5 : Int} {v6 : (List Int)} {v7 : Int} {v8 : Int} {v9 : Bool} {v10 : Int} {v11 : Int} (hr : loop_firstError_2d9c v1 v2 v3 v4 v5 v6 v7 v8 v9 v10 = some (v11)) : Spec (lim Try.prog) 48 [.list 1 [[.func 113 [] [.fptr true [.v (.int .i64 v1)] 0, .fptr true [.v (.int .i64 v2)] 0]], [.func 79 [] [.fptr true [.list 1 (v3.map e_i), .v (.int .i64 v4)] 0]], [.func 122 [] [.fptr true [.v (.int .i64 v5)] 0, .fptr true [.func 119 [] [.fptr true [.list 1 (v6.map e_i)] 0, .fptr true [.v (.int .i64 v7)] 0, .fptr true [.v (.int .i64 v8)] 0]] 0]], [.func 88 [] [.fptr true [.v (.bool v9)] 0, .fptr true [.v (.int .i64 v10)] 0]]]] ⟨[.v (.int .i64 v11)], []⟩ := by
  unfold loop_firstError_2d9c at hr
  apply Spec.fn Try.func48 rfl
  focus (simp [Try.f48] <;> exact rfl)
  focus
    repeat (first | (with_reducible first | refine mv ?_ | refine m12 rfl ?_ | refine TO.nil ?_) | ((with_reducible first | apply TO.asg | apply TO.mv | apply TO.len); (repeat (focus (show _ = _; first | exact k1 rfl | exact k2 rfl | (simp only [zz, y12, e_i, Nat.reduceAdd, Nat.reduceMul, Nat.reduceLeDiff, Nat.reduceEqDiff, tlen] <;> exact rfl) | exact rfl))); (with_reducible refine TO.here ?_)) | ((with_reducible apply TX.region); (focus (simp only [zl] <;> exact rfl)); (focus rfl); (try dsimp only)) | fail)
    refine TX.unroll ?_
    repeat (first | (with_reducible first | refine mv ?_ | refine m12 rfl ?_ | refine TO.nil ?_) | ((with_reducible first | apply TO.bin | apply TO.ia | apply TO.ld | apply TO.asg | apply TO.mv); (repeat (focus (show _ = _; first | exact k1 rfl | exact k2 rfl | (simp only [zz, y12, e_i, Nat.reduceAdd, Nat.reduceMul, Nat.reduceLeDiff, Nat.reduceEqDiff, tindexAddr, z5, Int.reduceToNat, Int.reduceLE, Int.reduceLT, Int.cast_ofNat_Int, tload, rowOf, partT, List.getElem?_map] <;> exact rfl) | exact rfl))); (with_reducible refine TO.here ?_)) | ((with_reducible apply TX.region); (focus (simp only [zl] <;> exact rfl)); (focus rfl); (try dsimp only)) | ((with_reducible apply TX.cond_true); (focus rfl); (focus (first | rfl | (simp only [z1, zn]; done)))) | ((with_reducible apply TX.cond_false); (focus rfl); (focus (first | rfl | (simp only [z1, zn]; done)))) | fail)
    obtain ⟨v12, h1, hr⟩ := Option.bind_eq_some_iff.1 hr
    try dsimp only at hr
    apply TO.cal (by first | rfl | (simp only [twant, z1, z7] <;> rfl)) rfl goFn113 (loop_counted_c1_b585_spec h1) rfl rfl rfl
    (repeat (focus (show _ = _; first | exact k1 rfl | exact k2 rfl | (simp only [zz, y12, e_i, Nat.reduceAdd, Nat.reduceMul, Nat.reduceLeDiff, Nat.reduceEqDiff, shift, kill, killB, frz, frzB, view, tml, tmlc, List.length_set] <;> exact rfl) | exact rfl)))
    with_reducible apply TO.here
    repeat (first | (with_reducible first | refine mv ?_ | refine m12 rfl ?_ | refine TO.nil ?_) | ((with_reducible first | apply TO.asg | apply TO.mv | apply TO.bin); (repeat (focus (show _ = _; first | exact k1 rfl | exact k2 rfl | (simp only [zz, y12, e_i, Nat.reduceAdd, Nat.reduceMul, Nat.reduceLeDiff, Nat.reduceEqDiff] <;> exact rfl) | exact rfl))); (with_reducible refine TO.here ?_)) | ((with_reducible apply TX.region); (focus (simp only [zl] <;> exact rfl)); (focus rfl); (try dsimp only)) | ((with_reducible apply TX.cond_true); (focus rfl); (focus (first | rfl | (simp only [z1, zn]; done)))) | ((with_reducible apply TX.cond_false); (focus rfl); (focus (first | rfl | (simp only [z1, zn]; done)))) | fail)
    rcases Bool.eq_false_or_eq_true ((decide (v12 ≠ 0))) with h2 | h2
    · rw [if_pos h2] at hr
      repeat (first | (with_reducible first | refine mv ?_ | refine m12 rfl ?_ | refine TO.nil ?_) | ((with_reducible first | apply TO.mv | apply TO.asg); (repeat (focus (show _ = _; first | exact k1 rfl | exact k2 rfl | (simp only [zz, y12, e_i, Nat.reduceAdd, Nat.reduceMul, Nat.reduceLeDiff, Nat.reduceEqDiff, h2] <;> exact rfl) | exact rfl))); (with_reducible refine TO.here ?_)) | ((with_reducible apply TX.region); (focus (simp only [zl] <;> exact rfl)); (focus rfl); (try dsimp only)) | ((with_reducible apply TX.cond_true); (focus rfl); (focus (first | rfl | (simp only [z1, zn, h2]; done)))) | ((with_reducible apply TX.cond_false); (focus rfl); (focus (first | rfl | (simp only [z1, zn, h2]; done)))) | fail)
      cases hr
      refine ⟨.inr rfl, _, (by simp only [zy, y12, e_i, tresAll, tres, tload, rowOf, partT, h2]; exact rfl), ?_⟩
      exact Wk.ren [] rfl .nil (by (repeat (first | exact RNs.nil | refine RNs.cons .junk ?_ | refine RNs.cons (.keep rfl rfl) ?_ | refine RNs.cons (.lsl rfl rfl) ?_ | refine RNs.cons (.lsl rfl (by simp only [List.length_set])) ?_ | refine RNs.cons (.lptr rfl) ?_ | refine RNs.cons (.nil rfl) ?_ | refine RNs.cons .nl ?_ | refine RNs.cons (.keep (by simp only [h2]) rfl) ?_ | refine RNs.cons (.tuple' ?_) ?_ | refine RNs.cons (.agg' ?_) ?_)))
    · rw [if_neg (by rw [h2]; exact Bool.false_ne_true)] at hr
      repeat (first | (with_reducible first | refine mv ?_ | refine m12 rfl ?_ | refine TO.nil ?_) | ((with_reducible first | apply TO.bin | apply TO.mv); (repeat (focus (show _ = _; first | exact k1 rfl | exact k2 rfl | (simp only [zz, y12, e_i, Nat.reduceAdd, Nat.reduceMul, Nat.reduceLeDiff, Nat.reduceEqDiff, h2] <;> exact rfl) | exact rfl))); (with_reducible refine TO.here ?_)) | ((with_reducible apply TX.region); (focus (simp only [zl] <;> exact rfl)); (focus rfl); (try dsimp only)) | ((with_reducible apply TX.cond_true); (focus rfl); (focus (first | rfl | (simp only [z1, zn, h2]; done)))) | ((with_reducible apply TX.cond_false); (focus rfl); (focus (first | rfl | (simp only [z1, zn, h2]; done)))) | fail)
      refine TX.unroll ?_
      repeat (first | (with_reducible first | refine mv ?_ | refine m12 rfl ?_ | refine TO.nil ?_) | ((with_reducible first | apply TO.bin | apply TO.ia | apply TO.ld | apply TO.asg | apply TO.mv); (repeat (focus (show _ = _; first | exact k1 rfl | exact k2 rfl | (simp only [zz, y12, e_i, Nat.reduceAdd, Nat.reduceMul, Nat.reduceLeDiff, Nat.reduceEqDiff, tindexAddr, z5, Int.reduceToNat, Int.reduceLE, Int.reduceLT, Int.cast_ofNat_Int, tload, rowOf, partT, List.getElem?_map, h2] <;> exact rfl) | exact rfl))); (with_reducible refine TO.here ?_)) | ((with_reducible apply TX.region); (focus (simp only [zl] <;> exact rfl)); (focus rfl); (try dsimp only)) | ((with_reducible apply TX.cond_true); (focus rfl); (focus (first | rfl | (simp only [z1, zn, h2]; done)))) | ((with_reducible apply TX.cond_false); (focus rfl); (focus (first | rfl | (simp only [z1, zn, h2]; done)))) | fail)
      obtain ⟨v13, h3, hr⟩ := Option.bind_eq_some_iff.1 hr
      try dsimp only at hr
      apply TO.cal (by first | rfl | (simp only [twant, z1, z7, h2] <;> rfl)) rfl goFn79 (loop_feedback_check_c1_431b_spec h3) rfl rfl rfl
      (repeat (focus (show _ = _; first | exact k1 rfl | exact k2 rfl | (simp only [zz, y12, e_i, Nat.reduceAdd, Nat.reduceMul, Nat.reduceLeDiff, Nat.reduceEqDiff, shift, kill, killB, frz, frzB, view, tml, tmlc, List.length_set, h2] <;> exact rfl) | exact rfl)))
      with_reducible apply TO.here
      repeat (first | (with_reducible first | refine mv ?_ | refine m12 rfl ?_ | refine TO.nil ?_) | ((with_reducible first | apply TO.asg | apply TO.mv | apply TO.bin); (repeat (focus (show _ = _; first | exact k1 rfl | exact k2 rfl | (simp only [zz, y12, e_i, Nat.reduceAdd, Nat.reduceMul, Nat.reduceLeDiff, Nat.reduceEqDiff, h2] <;> exact rfl) | exact rfl))); (with_reducible refine TO.here ?_)) | ((with_reducible apply TX.region); (focus (simp only [zl] <;> exact rfl)); (focus rfl); (try dsimp only)) | ((with_reducible apply TX.cond_true); (focus rfl); (focus (first | rfl | (simp only [z1, zn, h2]; done)))) | ((with_reducible apply TX.cond_false); (focus rfl); (focus (first | rfl | (simp only [z1, zn, h2]; done)))) | fail)
      rcases Bool.eq_false_or_eq_true ((decide (v13 ≠ 0))) with h4 | h4
      · rw [if_pos h4] at hr
        repeat (first | (with_reducible first | refine mv ?_ | refine m12 rfl ?_ | refine TO.nil ?_) | ((with_reducible first | apply TO.mv | apply TO.asg); (repeat (focus (show _ = _; first | exact k1 rfl | exact k2 rfl | (simp only [zz, y12, e_i, Nat.reduceAdd, Nat.reduceMul, Nat.reduceLeDiff, Nat.reduceEqDiff, h2, h4] <;> exact rfl) | exact rfl))); (with_reducible refine TO.here ?_)) | ((with_reducible apply TX.region); (focus (simp only [zl] <;> exact rfl)); (focus rfl); (try dsimp only)) | ((with_reducible apply TX.cond_true); (focus rfl); (focus (first | rfl | (simp only [z1, zn, h2, h4]; done)))) | ((with_reducible apply TX.cond_false); (focus rfl); (focus (first | rfl | (simp only [z1, zn, h2, h4]; done)))) | fail)
        cases hr
        refine ⟨.inr rfl, _, (by simp only [zy, y12, e_i, tresAll, tres, tload, rowOf, partT, h2, h4]; exact rfl), ?_⟩
        exact Wk.ren [] rfl .nil (by (repeat (first | exact RNs.nil | refine RNs.cons .junk ?_ | refine RNs.cons (.keep rfl rfl) ?_ | refine RNs.cons (.lsl rfl rfl) ?_ | refine RNs.cons (.lsl rfl (by simp only [List.length_set])) ?_ | refine RNs.cons (.lptr rfl) ?_ | refine RNs.cons (.nil rfl) ?_ | refine RNs.cons .nl ?_ | refine RNs.cons (.keep (by simp only [h2, h4]) rfl) ?_ | refine RNs.cons (.tuple' ?_) ?_ | refine RNs.cons (.agg' ?_) ?_)))
      · rw [if_neg (by rw [h4]; exact Bool.false_ne_true)] at hr
        repeat (first | (with_reducible first | refine mv ?_ | refine m12 rfl ?_ | refine TO.nil ?_) | ((with_reducible first | apply TO.bin | apply TO.mv); (repeat (focus (show _ = _; first | exact k1 rfl | exact k2 rfl | (simp only [zz, y12, e_i, Nat.reduceAdd, Nat.reduceMul, Nat.reduceLeDiff, Nat.reduceEqDiff, h2, h4] <;> exact rfl) | exact rfl))); (with_reducible refine TO.here ?_)) | ((with_reducible apply TX.region); (focus (simp only [zl] <;> exact rfl)); (focus rfl); (try dsimp only)) | ((with_reducible apply TX.cond_true); (focus rfl); (focus (first | rfl | (simp only [z1, zn, h2, h4]; done)))) | ((with_reducible apply TX.cond_false); (focus rfl); (focus (first | rfl | (simp only [z1, zn, h2, h4]; done)))) | fail)
        refine TX.unroll ?_
        repeat (first | (with_reducible first | refine mv ?_ | refine m12 rfl ?_ | refine TO.nil ?_) | ((with_reducible first | apply TO.bin | apply TO.ia | apply TO.ld | apply TO.asg | apply TO.mv); (repeat (focus (show _ = _; first | exact k1 rfl | exact k2 rfl | (simp only [zz, y12, e_i, Nat.reduceAdd, Nat.reduceMul, Nat.reduceLeDiff, Nat.reduceEqDiff, tindexAddr, z5, Int.reduceToNat, Int.reduceLE, Int.reduceLT, Int.cast_ofNat_Int, tload, rowOf, partT, List.getElem?_map, h2, h4] <;> exact rfl) | exact rfl))); (with_reducible refine TO.here ?_)) | ((with_reducible apply TX.region); (focus (simp only [zl] <;> exact rfl)); (focus rfl); (try dsimp only)) | ((with_reducible apply TX.cond_true); (focus rfl); (focus (first | rfl | (simp only [z1, zn, h2, h4]; done)))) | ((with_reducible apply TX.cond_false); (focus rfl); (focus (first | rfl | (simp only [z1, zn, h2, h4]; done)))) | fail)
        obtain ⟨v14, h5, hr⟩ := Option.bind_eq_some_iff.1 hr
        try dsimp only at hr
        apply TO.cal (by first | rfl | (simp only [twant, z1, z7, h2, h4] <;> rfl)) rfl goFn122 (loop_each_c1_2344_spec h5) rfl rfl rfl
        (repeat (focus (show _ = _; first | exact k1 rfl | exact k2 rfl | (simp only [zz, y12, e_i, Nat.reduceAdd, Nat.reduceMul, Nat.reduceLeDiff, Nat.reduceEqDiff, shift, kill, killB, frz, frzB, view, tml, tmlc, List.length_set, h2, h4] <;> exact rfl) | exact rfl)))
        with_reducible apply TO.here
        repeat (first | (with_reducible first | refine mv ?_ | refine m12 rfl ?_ | refine TO.nil ?_) | ((with_reducible first | apply TO.asg | apply TO.mv | apply TO.bin); (repeat (focus (show _ = _; first | exact k1 rfl | exact k2 rfl | (simp only [zz, y12, e_i, Nat.reduceAdd, Nat.reduceMul, Nat.reduceLeDiff, Nat.reduceEqDiff, h2, h4] <;> exact rfl) | exact rfl))); (with_reducible refine TO.here ?_)) | ((with_reducible apply TX.region); (focus (simp only [zl] <;> exact rfl)); (focus rfl); (try dsimp only)) | ((with_reducible apply TX.cond_true); (focus rfl); (focus (first | rfl | (simp only [z1, zn, h2, h4]; done)))) | ((with_reducible apply TX.cond_false); (focus rfl); (focus (first | rfl | (simp only [z1, zn, h2, h4]; done)))) | fail)
        rcases Bool.eq_false_or_eq_true ((decide (v14 ≠ 0))) with h6 | h6
        · rw [if_pos h6] at hr
          repeat (first | (with_reducible first | refine mv ?_ | refine m12 rfl ?_ | refine TO.nil ?_) | ((with_reducible first | apply TO.mv | apply TO.asg); (repeat (focus (show _ = _; first | exact k1 rfl | exact k2 rfl | (simp only [zz, y12, e_i, Nat.reduceAdd, Nat.reduceMul, Nat.reduceLeDiff, Nat.reduceEqDiff, h2, h4, h6] <;> exact rfl) | exact rfl))); (with_reducible refine TO.here ?_)) | ((with_reducible apply TX.region); (focus (simp only [zl] <;> exact rfl)); (focus rfl); (try dsimp only)) | ((with_reducible apply TX.cond_true); (focus rfl); (focus (first | rfl | (simp only [z1, zn, h2, h4, h6]; done)))) | ((with_reducible apply TX.cond_false); (focus rfl); (focus (first | rfl | (simp only [z1, zn, h2, h4, h6]; done)))) | fail)
          cases hr
          refine ⟨.inr rfl, _, (by simp only [zy, y12, e_i, tresAll, tres, tload, rowOf, partT, h2, h4, h6]; exact rfl), ?_⟩
          exact Wk.ren [] rfl .nil (by (repeat (first | exact RNs.nil | refine RNs.cons .junk ?_ | refine RNs.cons (.keep rfl rfl) ?_ | refine RNs.cons (.lsl rfl rfl) ?_ | refine RNs.cons (.lsl rfl (by simp only [List.length_set])) ?_ | refine RNs.cons (.lptr rfl) ?_ | refine RNs.cons (.nil rfl) ?_ | refine RNs.cons .nl ?_ | refine RNs.cons (.keep (by simp only [h2, h4, h6]) rfl) ?_ | refine RNs.cons (.tuple' ?_) ?_ | refine RNs.cons (.agg' ?_) ?_)))
        · rw [if_neg (by rw [h6]; exact Bool.false_ne_true)] at hr
          repeat (first | (with_reducible first | refine mv ?_ | refine m12 rfl ?_ | refine TO.nil ?_) | ((with_reducible first | apply TO.bin | apply TO.mv); (repeat (focus (show _ = _; first | exact k1 rfl | exact k2 rfl | (simp only [zz, y12, e_i, Nat.reduceAdd, Nat.reduceMul, Nat.reduceLeDiff, Nat.reduceEqDiff, h2, h4, h6] <;> exact rfl) | exact rfl))); (with_reducible refine TO.here ?_)) | ((with_reducible apply TX.region); (focus (simp only [zl] <;> exact rfl)); (focus rfl); (try dsimp only)) | ((with_reducible apply TX.cond_true); (focus rfl); (focus (first | rfl | (simp only [z1, zn, h2, h4, h6]; done)))) | ((with_reducible apply TX.cond_false); (focus rfl); (focus (first | rfl | (simp only [z1, zn, h2, h4, h6]; done)))) | fail)
          refine TX.unroll ?_
          repeat (first | (with_reducible first | refine mv ?_ | refine m12 rfl ?_ | refine TO.nil ?_) | ((with_reducible first | apply TO.bin | apply TO.ia | apply TO.ld | apply TO.asg | apply TO.mv); (repeat (focus (show _ = _; first | exact k1 rfl | exact k2 rfl | (simp only [zz, y12, e_i, Nat.reduceAdd, Nat.reduceMul, Nat.reduceLeDiff, Nat.reduceEqDiff, tindexAddr, z5, Int.reduceToNat, Int.reduceLE, Int.reduceLT, Int.cast_ofNat_Int, tload, rowOf, partT, List.getElem?_map, h2, h4, h6] <;> exact rfl) | exact rfl))); (with_reducible refine TO.here ?_)) | ((with_reducible apply TX.region); (focus (simp only [zl] <;> exact rfl)); (focus rfl); (try dsimp only)) | ((with_reducible apply TX.cond_true); (focus rfl); (focus (first | rfl | (simp only [z1, zn, h2, h4, h6]; done)))) | ((with_reducible apply TX.cond_false); (focus rfl); (focus (first | rfl | (simp only [z1, zn, h2, h4, h6]; done)))) | fail)
          obtain ⟨v15, h7, hr⟩ := Option.bind_eq_some_iff.1 hr
          try dsimp only at hr
          apply TO.cal (by first | rfl | (simp only [twant, z1, z7, h2, h4, h6] <;> rfl)) rfl goFn88 (loop_refuse_c1_11f9_spec h7) rfl rfl rfl
          (repeat (focus (show _ = _; first | exact k1 rfl | exact k2 rfl | (simp only [zz, y12, e_i, Nat.reduceAdd, Nat.reduceMul, Nat.reduceLeDiff, Nat.reduceEqDiff, shift, kill, killB, frz, frzB, view, tml, tmlc, List.length_set, h2, h4, h6] <;> exact rfl) | exact rfl)))
          with_reducible apply TO.here
          repeat (first | (with_reducible first | refine mv ?_ | refine m12 rfl ?_ | refine TO.nil ?_) | ((with_reducible first | apply TO.asg | apply TO.mv | apply TO.bin); (repeat (focus (show _ = _; first | exact k1 rfl | exact k2 rfl | (simp only [zz, y12, e_i, Nat.reduceAdd, Nat.reduceMul, Nat.reduceLeDiff, Nat.reduceEqDiff, h2, h4, h6] <;> exact rfl) | exact rfl))); (with_reducible refine TO.here ?_)) | ((with_reducible apply TX.region); (focus (simp only [zl] <;> exact rfl)); (focus rfl); (try dsimp only)) | ((with_reducible apply TX.cond_true); (focus rfl); (focus (first | rfl | (simp only [z1, zn, h2, h4, h6]; done)))) | ((with_reducible apply TX.cond_false); (focus rfl); (focus (first | rfl | (simp only [z1, zn, h2, h4, h6]; done)))) | fail)
          rcases Bool.eq_false_or_eq_true ((decide (v15 ≠ 0))) with h8 | h8
          · rw [if_pos h8] at hr
            repeat (first | (with_reducible first | refine mv ?_ | refine m12 rfl ?_ | refine TO.nil ?_) | ((with_reducible first | apply TO.mv | apply TO.asg); (repeat (focus (show _ = _; first | exact k1 rfl | exact k2 rfl | (simp only [zz, y12, e_i, Nat.reduceAdd, Nat.reduceMul, Nat.reduceLeDiff, Nat.reduceEqDiff, h2, h4, h6, h8] <;> exact rfl) | exact rfl))); (with_reducible refine TO.here ?_)) | ((with_reducible apply TX.region); (focus (simp only [zl] <;> exact rfl)); (focus rfl); (try dsimp only)) | ((with_reducible apply TX.cond_true); (focus rfl); (focus (first | rfl | (simp only [z1, zn, h2, h4, h6, h8]; done)))) | ((with_reducible apply TX.cond_false); (focus rfl); (focus (first | rfl | (simp only [z1, zn, h2, h4, h6, h8]; done)))) | fail)
            cases hr
            refine ⟨.inr rfl, _, (by simp only [zy, y12, e_i, tresAll, tres, tload, rowOf, partT, h2, h4, h6, h8]; exact rfl), ?_⟩
            exact Wk.ren [] rfl .nil (by (repeat (first | exact RNs.nil | refine RNs.cons .junk ?_ | refine RNs.cons (.keep rfl rfl) ?_ | refine RNs.cons (.lsl rfl rfl) ?_ | refine RNs.cons (.lsl rfl (by simp only [List.length_set])) ?_ | refine RNs.cons (.lptr rfl) ?_ | refine RNs.cons (.nil rfl) ?_ | refine RNs.cons .nl ?_ | refine RNs.cons (.keep (by simp only [h2, h4, h6, h8]) rfl) ?_ | refine RNs.cons (.tuple' ?_) ?_ | refine RNs.cons (.agg' ?_) ?_)))
          · rw [if_neg (by rw [h8]; exact Bool.false_ne_true)] at hr
            repeat (first | (with_reducible first | refine mv ?_ | refine m12 rfl ?_ | refine TO.nil ?_) | ((with_reducible first | apply TO.bin | apply TO.mv); (repeat (focus (show _ = _; first | exact k1 rfl | exact k2 rfl | (simp only [zz, y12, e_i, Nat.reduceAdd, Nat.reduceMul, Nat.reduceLeDiff, Nat.reduceEqDiff, h2, h4, h6, h8] <;> exact rfl) | exact rfl))); (with_reducible refine TO.here ?_)) | ((with_reducible apply TX.region); (focus (simp only [zl] <;> exact rfl)); (focus rfl); (try dsimp only)) | ((with_reducible apply TX.cond_true); (focus rfl); (focus (first | rfl | (simp only [z1, zn, h2, h4, h6, h8]; done)))) | ((with_reducible apply TX.cond_false); (focus rfl); (focus (first | rfl | (simp only [z1, zn, h2, h4, h6, h8]; done)))) | fail)
            refine TX.unroll ?_
            repeat (first | (with_reducible first | refine mv ?_ | refine m12 rfl ?_ | refine TO.nil ?_) | ((with_reducible first | apply TO.bin | apply TO.asg); (repeat (focus (show _ = _; first | exact k1 rfl | exact k2 rfl | (simp only [zz, y12, e_i, Nat.reduceAdd, Nat.reduceMul, Nat.reduceLeDiff, Nat.reduceEqDiff, h2, h4, h6, h8] <;> exact rfl) | exact rfl))); (with_reducible refine TO.here ?_)) | ((with_reducible apply TX.region); (focus (simp only [zl] <;> exact rfl)); (focus rfl); (try dsimp only)) | ((with_reducible apply TX.cond_true); (focus rfl); (focus (first | rfl | (simp only [z1, zn, h2, h4, h6, h8]; done)))) | ((with_reducible apply TX.cond_false); (focus rfl); (focus (first | rfl | (simp only [z1, zn, h2, h4, h6, h8]; done)))) | fail)
            cases hr
            refine ⟨.inr rfl, _, (by simp only [zy, y12, e_i, tresAll, tres, tload, rowOf, partT, h2, h4, h6, h8]; exact rfl), ?_⟩
            exact Wk.ren [] rfl .nil (by (repeat (first | exact RNs.nil | refine RNs.cons .junk ?_ | refine RNs.cons (.keep rfl rfl) ?_ | refine RNs.cons (.lsl rfl rfl) ?_ | refine RNs.cons (.lsl rfl (by simp only [List.length_set])) ?_ | refine RNs.cons (.lptr rfl) ?_ | refine RNs.cons (.nil rfl) ?_ | refine RNs.cons .nl ?_ | refine RNs.cons (.keep (by simp only [h2, h4, h6, h8]) rfl) ?_ | refine RNs.cons (.tuple' ?_) ?_ | refine RNs.cons (.agg' ?_) ?_)))
  rfl

end Go.Rex

namespace Go.Rex
open Go.Proofs
open Go Go.Rex Go.RowKit
set_option maxRecDepth 100000
set_option maxHeartbeats 200000
def y13 := an @ag22 <| an @ag3 <| an @cs94 <| an @fd24_0 <| an @fd24_1 <| an @fd86_0 <| an @so122 <| an @so22 <| @zc94
theorem loop_feedback_check_spec {v1 : (List Int)} {v2 : Int} {v3 : Int} (hr : loop_feedback_check v1 v2 = some (v3)) : Spec (lim Try.prog) 49 [.agg [.list 1 (v1.map e_i), .v (.int .i64 v2)]] ⟨[.v (.int .i64 v3)], []⟩ := by
  unfold loop_feedback_check at hr
  apply Spec.fn Try.func49 rfl
  focus (simp [Try.f49] <;> exact rfl)
  focus
    repeat (first | (with_reducible first | refine mv ?_ | refine m12 rfl ?_ | refine TO.nil ?_) | ((with_reducible first | apply TO.bf | apply TO.asg); (repeat (focus (show _ = _; first | exact k1 rfl | exact k2 rfl | (simp only [zz, y13, e_i, Nat.reduceAdd, Nat.reduceMul, Nat.reduceLeDiff, Nat.reduceEqDiff] <;> exact rfl) | exact rfl))); (with_reducible refine TO.here ?_)) | ((with_reducible apply TX.region); (focus (simp only [zl] <;> exact rfl)); (focus rfl); (try dsimp only)) | with_reducible refine TD.nil ?_ | ((with_reducible first | apply TD.fa | apply TD.ld | apply TD.ldw | apply TD.len); (repeat (focus (show _ = _; first | exact k1 rfl | exact k2 rfl | (simp only [zz, y13, e_i, Nat.reduceAdd, Nat.reduceMul, Nat.reduceLeDiff, Nat.reduceEqDiff, tfieldAddr, tload, rowOf, partT, List.getElem?_map, tlen] <;> exact rfl) | exact rfl))); (with_reducible refine TD.here ?_)) | ((with_reducible apply TX.drawn); (focus decide +kernel); (focus (simp only [zl] <;> exact rfl)); (focus exact rfl); (try dsimp only)) | fail)
    obtain ⟨⟨v4, v5⟩, h1, hr⟩ := Option.bind_eq_some_iff.1 hr
    try dsimp only at hr
    first | apply TD.cal (by first | rfl | (simp only [twant, z1, z7] <;> rfl)) rfl goFn73 (loop_counted_spec h1) rfl rfl rfl | apply TD.calw (by first | rfl | (simp only [twant, z1, z7] <;> rfl)) rfl goFn73 (loop_counted_spec h1) rfl rfl rfl rfl
    (repeat (focus (show _ = _; first | exact k1 rfl | exact k2 rfl | (simp only [zz, y13, e_i, Nat.reduceAdd, Nat.reduceMul, Nat.reduceLeDiff, Nat.reduceEqDiff, shift, kill, killB, frz, frzB, view, tml, tmlc, List.length_set] <;> exact rfl) | exact rfl)))
    with_reducible apply TD.here
    repeat (first | (with_reducible first | refine mv ?_ | refine m12 rfl ?_ | refine TD.nil ?_) | ((with_reducible first | apply TD.mf | apply TD.fa | apply TD.ld | apply TD.ldw); (repeat (focus (show _ = _; first | exact k1 rfl | exact k2 rfl | (simp only [zz, y13, e_i, Nat.reduceAdd, Nat.reduceMul, Nat.reduceLeDiff, Nat.reduceEqDiff, tfieldAddr, tload, rowOf, partT, List.getElem?_map] <;> exact rfl) | exact rfl))); (with_reducible refine TD.here ?_)) | ((with_reducible apply TX.drawn); (focus decide +kernel); (focus (simp only [zl] <;> exact rfl)); (focus exact rfl); (try dsimp only)) | fail)
    obtain ⟨⟨v6, v7, v8, v9⟩, h2, hr⟩ := Option.bind_eq_some_iff.1 hr
    try dsimp only at hr
    first | apply TD.cal (by first | rfl | (simp only [twant, z1, z7] <;> rfl)) rfl goFn80 (loop_allWithin_spec h2) rfl rfl rfl | apply TD.calw (by first | rfl | (simp only [twant, z1, z7] <;> rfl)) rfl goFn80 (loop_allWithin_spec h2) rfl rfl rfl rfl
    (repeat (focus (show _ = _; first | exact k1 rfl | exact k2 rfl | (simp only [zz, y13, e_i, Nat.reduceAdd, Nat.reduceMul, Nat.reduceLeDiff, Nat.reduceEqDiff, shift, kill, killB, frz, frzB, view, tml, tmlc, List.length_set] <;> exact rfl) | exact rfl)))
    with_reducible apply TD.here
    repeat (first | (with_reducible first | refine mv ?_ | refine m12 rfl ?_ | refine TD.nil ?_) | ((with_reducible first | apply TD.fa | apply TD.ld | apply TD.ldw); (repeat (focus (show _ = _; first | exact k1 rfl | exact k2 rfl | (simp only [zz, y13, e_i, Nat.reduceAdd, Nat.reduceMul, Nat.reduceLeDiff, Nat.reduceEqDiff, tfieldAddr, tload, rowOf, partT, List.getElem?_map] <;> exact rfl) | exact rfl))); (with_reducible refine TD.here ?_)) | ((with_reducible apply TX.drawn); (focus decide +kernel); (focus (simp only [zl] <;> exact rfl)); (focus exact rfl); (try dsimp only)) | fail)
    obtain ⟨⟨v10, v11⟩, h3, hr⟩ := Option.bind_eq_some_iff.1 hr
    try dsimp only at hr
    first | apply TD.cal (by first | rfl | (simp only [twant, z1, z7] <;> rfl)) rfl goFn50 (loop_within_spec h3) rfl rfl rfl | apply TD.calw (by first | rfl | (simp only [twant, z1, z7] <;> rfl)) rfl goFn50 (loop_within_spec h3) rfl rfl rfl rfl
    (repeat (focus (show _ = _; first | exact k1 rfl | exact k2 rfl | (simp only [zz, y13, e_i, Nat.reduceAdd, Nat.reduceMul, Nat.reduceLeDiff, Nat.reduceEqDiff, shift, kill, killB, frz, frzB, view, tml, tmlc, List.length_set] <;> exact rfl) | exact rfl)))
    with_reducible apply TD.here
    repeat (first | (with_reducible first | refine mv ?_ | refine m12 rfl ?_ | refine TD.nil ?_) | ((with_reducible first | apply TD.bs); (repeat (focus (show _ = _; first | exact k1 rfl | exact k2 rfl | (simp only [zz, y13, e_i, Nat.reduceAdd, Nat.reduceMul, Nat.reduceLeDiff, Nat.reduceEqDiff, tslice, tparts] <;> exact rfl) | exact rfl))); (with_reducible refine TD.here ?_)) | ((with_reducible apply TX.drawn); (focus decide +kernel); (focus (simp only [zl] <;> exact rfl)); (focus exact rfl); (try dsimp only)) | fail)
    obtain ⟨v12, h4, hr⟩ := Option.bind_eq_some_iff.1 hr
    try dsimp only at hr
    first | apply TD.cal (by first | rfl | (simp only [twant, z1, z7] <;> rfl)) rfl goFn48 (loop_firstError_2d9c_spec h4) rfl rfl rfl | apply TD.calw (by first | rfl | (simp only [twant, z1, z7] <;> rfl)) rfl goFn48 (loop_firstError_2d9c_spec h4) rfl rfl rfl rfl
    (repeat (focus (show _ = _; first | exact k1 rfl | exact k2 rfl | (simp only [zz, y13, e_i, Nat.reduceAdd, Nat.reduceMul, Nat.reduceLeDiff, Nat.reduceEqDiff, shift, kill, killB, frz, frzB, view, tml, tmlc, List.length_set] <;> exact rfl) | exact rfl)))
    with_reducible apply TD.here
    repeat (first | (with_reducible first | refine mv ?_ | refine m12 rfl ?_ | refine TD.nil ?_) | ((with_reducible first | apply TD.asg); (repeat (focus (show _ = _; first | exact k1 rfl | exact k2 rfl | (simp only [zz, y13, e_i, Nat.reduceAdd, Nat.reduceMul, Nat.reduceLeDiff, Nat.reduceEqDiff] <;> exact rfl) | exact rfl))); (with_reducible refine TD.here ?_)) | ((with_reducible apply TX.drawn); (focus decide +kernel); (focus (simp only [zl] <;> exact rfl)); (focus exact rfl); (try dsimp only)) | fail)
    cases hr
    refine ⟨.inr rfl, _, (by simp only [zy, y13, e_i, tresAll, tres, tload, rowOf, partT]; exact rfl), ?_⟩
    exact wr [] rfl .nil
  rfl

end Go.Rex

namespace Go.Rex
open Go.Proofs
open Go Go.Rex Go.RowKit
set_option maxRecDepth 100000
set_option maxHeartbeats 200000
theorem loop_size_spec {v1 : Int} {v2 : Int} (hr : loop_size v1 = some (v2)) : Spec (lim Try.prog) 82 [.v (.int .i64 v1)] ⟨[.v (.int .i64 v2)], []⟩ := by
  unfold loop_size at hr
  apply Spec.fn Try.func82 rfl
  focus (simp [Try.f82] <;> exact rfl)
  focus
    repeat (first | (with_reducible first | refine mv ?_ | refine m12 rfl ?_ | refine TO.nil ?_) | ((with_reducible first | apply TO.asg | apply TO.mv); (repeat (focus (show _ = _; first | exact k1 rfl | exact k2 rfl | (simp only [zz, Nat.reduceAdd, Nat.reduceMul, Nat.reduceLeDiff, Nat.reduceEqDiff] <;> exact rfl) | exact rfl))); (with_reducible refine TO.here ?_)) | ((with_reducible apply TX.region); (focus (simp only [zl] <;> exact rfl)); (focus rfl); (try dsimp only)) | fail)
    apply TO.pop1 (by first | rfl | (simp only [twant, z1, z7] <;> rfl)) (pop_neg rfl)
    (repeat (focus (show _ = _; first | exact k1 rfl | exact k2 rfl | (simp only [zz, Nat.reduceAdd, Nat.reduceMul, Nat.reduceLeDiff, Nat.reduceEqDiff] <;> exact rfl) | exact rfl)))
    with_reducible apply TO.here
    repeat (first | (with_reducible first | refine mv ?_ | refine m12 rfl ?_ | refine TO.nil ?_) | ((with_reducible apply TX.region); (focus (simp only [zl] <;> exact rfl)); (focus rfl); (try dsimp only)) | fail)
    apply TO.pop1 (by first | rfl | (simp only [twant, z1, z7] <;> rfl)) (pop_max rfl rfl)
    (repeat (focus (show _ = _; first | exact k1 rfl | exact k2 rfl | (simp only [zz, Nat.reduceAdd, Nat.reduceMul, Nat.reduceLeDiff, Nat.reduceEqDiff] <;> exact rfl) | exact rfl)))
    with_reducible apply TO.here
    repeat (first | (with_reducible first | refine mv ?_ | refine m12 rfl ?_ | refine TO.nil ?_) | ((with_reducible first | apply TO.asg); (repeat (focus (show _ = _; first | exact k1 rfl | exact k2 rfl | (simp only [zz, Nat.reduceAdd, Nat.reduceMul, Nat.reduceLeDiff, Nat.reduceEqDiff] <;> exact rfl) | exact rfl))); (with_reducible refine TO.here ?_)) | ((with_reducible apply TX.region); (focus (simp only [zl] <;> exact rfl)); (focus rfl); (try dsimp only)) | fail)
    cases hr
    refine ⟨.inr rfl, _, (by simp only [zy, tresAll, tres, tload, rowOf, partT]; exact rfl), ?_⟩
    exact wr [] rfl .nil
  rfl

end Go.Rex

namespace Go.Rex
open Go.Proofs
open Go Go.Rex Go.RowKit
set_option maxRecDepth 100000
set_option maxHeartbeats 200000
theorem loop_modulo_spec {v1 : Int} {v2 : Int} {v3 : Int} (hr : loop_modulo v1 v2 = some (v3)) : Spec (lim Try.prog) 131 [.v (.int .i64 v1), .v (.int .i64 v2)] ⟨[.v (.int .i64 v3)], []⟩ := by
  unfold loop_modulo at hr
  apply Spec.fn Try.func131 rfl
  focus (simp [Try.f131] <;> exact rfl)
  focus
    repeat (first | (with_reducible first | refine mv ?_ | refine m12 rfl ?_ | refine TO.nil ?_) | ((with_reducible first | apply TO.asg | apply TO.mv); (repeat (focus (show _ = _; first | exact k1 rfl | exact k2 rfl | (simp only [zz, Nat.reduceAdd, Nat.reduceMul, Nat.reduceLeDiff, Nat.reduceEqDiff] <;> exact rfl) | exact rfl))); (with_reducible refine TO.here ?_)) | ((with_reducible apply TX.region); (focus (simp only [zl] <;> exact rfl)); (focus rfl); (try dsimp only)) | fail)
    by_cases h1 : v2 = 0
    · rw [if_pos h1] at hr
      cases hr
    · rw [if_neg h1] at hr
      repeat (first | (with_reducible first | refine mv ?_ | refine m12 rfl ?_ | refine TO.nil ?_) | ((with_reducible first | apply TO.bin | apply TO.mv | apply TO.asg); (repeat (focus (show _ = _; first | exact k1 rfl | exact k2 rfl | (simp only [zz, Nat.reduceAdd, Nat.reduceMul, Nat.reduceLeDiff, Nat.reduceEqDiff, h1] <;> exact rfl) | exact rfl))); (with_reducible refine TO.here ?_)) | ((with_reducible apply TX.region); (focus (simp only [zl] <;> exact rfl)); (focus rfl); (try dsimp only)) | fail)
      cases hr
      refine ⟨.inr rfl, _, (by simp only [zy, tresAll, tres, tload, rowOf, partT, h1]; exact rfl), ?_⟩
      exact wr [] rfl .nil
  rfl

end Go.Rex

namespace Go.Rex
open Go.Proofs
open Go Go.Rex Go.RowKit
set_option maxRecDepth 100000
set_option maxHeartbeats 200000
theorem loop_floor_spec {v1 : Int} {v2 : Int} {v3 : Int} (hr : loop_floor v1 v2 = some (v3)) : Spec (lim Try.prog) 121 [.v (.int .i64 v1), .v (.int .i64 v2)] ⟨[.v (.int .i64 v3)], []⟩ := by
  unfold loop_floor at hr
  apply Spec.fn Try.func121 rfl
  focus (simp [Try.f121] <;> exact rfl)
  focus
    repeat (first | (with_reducible first | refine mv ?_ | refine m12 rfl ?_ | refine TO.nil ?_) | ((with_reducible first | apply TO.asg | apply TO.mv); (repeat (focus (show _ = _; first | exact k1 rfl | exact k2 rfl | (simp only [zz, Nat.reduceAdd, Nat.reduceMul, Nat.reduceLeDiff, Nat.reduceEqDiff] <;> exact rfl) | exact rfl))); (with_reducible refine TO.here ?_)) | ((with_reducible apply TX.region); (focus (simp only [zl] <;> exact rfl)); (focus rfl); (try dsimp only)) | fail)
    obtain ⟨v4, h1, hr⟩ := Option.bind_eq_some_iff.1 hr
    try dsimp only at hr
    apply TO.cal (by first | rfl | (simp only [twant, z1, z7] <;> rfl)) rfl goFn131 (loop_modulo_spec h1) rfl rfl rfl
    (repeat (focus (show _ = _; first | exact k1 rfl | exact k2 rfl | (simp only [zz, Nat.reduceAdd, Nat.reduceMul, Nat.reduceLeDiff, Nat.reduceEqDiff, shift, kill, killB, frz, frzB, view, tml, tmlc, List.length_set] <;> exact rfl) | exact rfl)))
    with_reducible apply TO.here
    repeat (first | (with_reducible first | refine mv ?_ | refine m12 rfl ?_ | refine TO.nil ?_) | ((with_reducible first | apply TO.bin | apply TO.mv); (repeat (focus (show _ = _; first | exact k1 rfl | exact k2 rfl | (simp only [zz, Nat.reduceAdd, Nat.reduceMul, Nat.reduceLeDiff, Nat.reduceEqDiff] <;> exact rfl) | exact rfl))); (with_reducible refine TO.here ?_)) | ((with_reducible apply TX.region); (focus (simp only [zl] <;> exact rfl)); (focus rfl); (try dsimp only)) | fail)
    by_cases h2 : v2 = 0
    · rw [if_pos h2] at hr
      cases hr
    · rw [if_neg h2] at hr
      repeat (first | (with_reducible first | refine mv ?_ | refine m12 rfl ?_ | refine TO.nil ?_) | ((with_reducible first | apply TO.bin | apply TO.asg); (repeat (focus (show _ = _; first | exact k1 rfl | exact k2 rfl | (simp only [zz, Nat.reduceAdd, Nat.reduceMul, Nat.reduceLeDiff, Nat.reduceEqDiff, h2] <;> exact rfl) | exact rfl))); (with_reducible refine TO.here ?_)) | ((with_reducible apply TX.region); (focus (simp only [zl] <;> exact rfl)); (focus rfl); (try dsimp only)) | fail)
      cases hr
      refine ⟨.inr rfl, _, (by simp only [zy, tresAll, tres, tload, rowOf, partT, h2]; exact rfl), ?_⟩
      exact wr [] rfl .nil
  rfl

end Go.Rex

namespace Go.Rex
open Go.Proofs
open Go Go.Rex Go.RowKit
set_option maxRecDepth 100000
set_option maxHeartbeats 200000
theorem loop_ceiling_spec {v1 : Int} {v2 : Int} {v3 : Int} (hr : loop_ceiling v1 v2 = some (v3)) : Spec (lim Try.prog) 84 [.v (.int .i64 v1), .v (.int .i64 v2)] ⟨[.v (.int .i64 v3)], []⟩ := by
  unfold loop_ceiling at hr
  apply Spec.fn Try.func84 rfl
  focus (simp [Try.f84] <;> exact rfl)
  focus
    repeat (first | (with_reducible first | refine mv ?_ | refine m12 rfl ?_ | refine TO.nil ?_) | ((with_reducible first | apply TO.asg | apply TO.mv); (repeat (focus (show _ = _; first | exact k1 rfl | exact k2 rfl | (simp only [zz, Nat.reduceAdd, Nat.reduceMul, Nat.reduceLeDiff, Nat.reduceEqDiff] <;> exact rfl) | exact rfl))); (with_reducible refine TO.here ?_)) | ((with_reducible apply TX.region); (focus (simp only [zl] <;> exact rfl)); (focus rfl); (try dsimp only)) | fail)
    apply TO.pop1 (by first | rfl | (simp only [twant, z1, z7] <;> rfl)) (pop_neg rfl)
    (repeat (focus (show _ = _; first | exact k1 rfl | exact k2 rfl | (simp only [zz, Nat.reduceAdd, Nat.reduceMul, Nat.reduceLeDiff, Nat.reduceEqDiff] <;> exact rfl) | exact rfl)))
    with_reducible apply TO.here
    repeat (first | (with_reducible first | refine mv ?_ | refine m12 rfl ?_ | refine TO.nil ?_) | ((with_reducible first | apply TO.mv); (repeat (focus (show _ = _; first | exact k1 rfl | exact k2 rfl | (simp only [zz, Nat.reduceAdd, Nat.reduceMul, Nat.reduceLeDiff, Nat.reduceEqDiff] <;> exact rfl) | exact rfl))); (with_reducible refine TO.here ?_)) | ((with_reducible apply TX.region); (focus (simp only [zl] <;> exact rfl)); (focus rfl); (try dsimp only)) | fail)
    obtain ⟨v4, h1, hr⟩ := Option.bind_eq_some_iff.1 hr
    try dsimp only at hr
    apply TO.cal (by first | rfl | (simp only [twant, z1, z7] <;> rfl)) rfl goFn121 (loop_floor_spec h1) rfl rfl rfl
    (repeat (focus (show _ = _; first | exact k1 rfl | exact k2 rfl | (simp only [zz, Nat.reduceAdd, Nat.reduceMul, Nat.reduceLeDiff, Nat.reduceEqDiff, shift, kill, killB, frz, frzB, view, tml, tmlc, List.length_set] <;> exact rfl) | exact rfl)))
    with_reducible apply TO.here
    repeat (first | (with_reducible first | refine mv ?_ | refine m12 rfl ?_ | refine TO.nil ?_) | ((with_reducible apply TX.region); (focus (simp only [zl] <;> exact rfl)); (focus rfl); (try dsimp only)) | fail)
    apply TO.pop1 (by first | rfl | (simp only [twant, z1, z7] <;> rfl)) (pop_neg rfl)
    (repeat (focus (show _ = _; first | exact k1 rfl | exact k2 rfl | (simp only [zz, Nat.reduceAdd, Nat.reduceMul, Nat.reduceLeDiff, Nat.reduceEqDiff] <;> exact rfl) | exact rfl)))
    with_reducible apply TO.here
    repeat (first | (with_reducible first | refine mv ?_ | refine m12 rfl ?_ | refine TO.nil ?_) | ((with_reducible first | apply TO.asg); (repeat (focus (show _ = _; first | exact k1 rfl | exact k2 rfl | (simp only [zz, Nat.reduceAdd, Nat.reduceMul, Nat.reduceLeDiff, Nat.reduceEqDiff] <;> exact rfl) | exact rfl))); (with_reducible refine TO.here ?_)) | ((with_reducible apply TX.region); (focus (simp only [zl] <;> exact rfl)); (focus rfl); (try dsimp only)) | fail)
    cases hr
    refine ⟨.inr rfl, _, (by simp only [zy, tresAll, tres, tload, rowOf, partT]; exact rfl), ?_⟩
    exact wr [] rfl .nil
  rfl

end Go.Rex

namespace Go.Rex
open Go.Proofs
open Go Go.Rex Go.RowKit
set_option maxRecDepth 100000
set_option maxHeartbeats 200000
def y14 := an @ag22 <| an @ag3 <| an @cs3 <| an @fd24_0 <| an @fd24_1 <| an @fd86_0 <| an @ok3 <| an @so22 <| @wi64_0a1
theorem loop_feedback_size_spec {v1 : (List Int)} {v2 : Int} {v3 : Int} (hr : loop_feedback_size v1 v2 = some (v3)) : Spec (lim Try.prog) 129 [.agg [.list 1 (v1.map e_i), .v (.int .i64 v2)]] ⟨[.v (.int .i64 v3)], []⟩ := by
  unfold loop_feedback_size at hr
  apply Spec.fn Try.func129 rfl
  focus (simp [Try.f129] <;> exact rfl)
  focus
    repeat (first | (with_reducible first | refine mv ?_ | refine m12 rfl ?_ | refine TO.nil ?_) | ((with_reducible first | apply TO.bf | apply TO.asg | apply TO.fa | apply TO.ld | apply TO.len | apply TO.mv); (repeat (focus (show _ = _; first | exact k1 rfl | exact k2 rfl | (simp only [zz, y14, e_i, Nat.reduceAdd, Nat.reduceMul, Nat.reduceLeDiff, Nat.reduceEqDiff, tfieldAddr, tload, rowOf, partT, List.getElem?_map, tlen] <;> exact rfl) | exact rfl))); (with_reducible refine TO.here ?_)) | ((with_reducible apply TX.region); (focus (simp only [zl] <;> exact rfl)); (focus rfl); (try dsimp only)) | fail)
    obtain ⟨v11, h7, hr⟩ := Option.bind_eq_some_iff.1 hr
    try dsimp only at hr
    refine TX.loopE (step := loop_feedback_size_l1 v1) (x := (0, 0)) h7 (fun (v4, v5) => ⟨.junk :: .fptr true [.list 1 (v1.map e_i), .v (.int .i64 v2)] 0 :: .junk :: .v (.int .i64 v4) :: .junk :: .junk :: .junk :: .junk :: .list 1 (v1.map e_i) :: .v (.int .i64 (v1.length : Int)) :: .v (.int .i64 v5) :: .junk :: .junk :: .junk :: .junk :: .junk :: .junk :: .junk :: .junk :: .junk :: .junk :: .junk :: .junk :: .junk :: .junk :: [], []⟩) (fun v8 => (.exit 0, ⟨.junk :: .fptr true [.list 1 (v1.map e_i), .v (.int .i64 v2)] 0 :: .junk :: .v (.int .i64 v8) :: .junk :: .junk :: .junk :: .junk :: .junk :: .junk :: .junk :: .junk :: .junk :: .junk :: .junk :: .junk :: .junk :: .junk :: .junk :: .junk :: .junk :: .junk :: .junk :: .junk :: .junk :: [], []⟩)) ?_ ?_ ?_ ?_
    · rintro ⟨v4, v5⟩ v0 hr
      dsimp only [loop_feedback_size_l1] at hr
      try dsimp only
      repeat (first | (with_reducible first | refine mv ?_ | refine m12 rfl ?_ | refine TO.nil ?_) | ((with_reducible first | apply TO.bin); (repeat (focus (show _ = _; first | exact k1 rfl | exact k2 rfl | (simp only [zz, y14, e_i, Nat.reduceAdd, Nat.reduceMul, Nat.reduceLeDiff, Nat.reduceEqDiff] <;> exact rfl) | exact rfl))); (with_reducible refine TO.here ?_)) | ((with_reducible apply TX.region); (focus (simp only [zl] <;> exact rfl)); (focus rfl); (try dsimp only)) | ((with_reducible apply TX.cond_true); (focus rfl); (focus (first | rfl | (simp only [z1, zn]; done)))) | ((with_reducible apply TX.cond_false); (focus rfl); (focus (first | rfl | (simp only [z1, zn]; done)))) | fail)
      rcases Bool.eq_false_or_eq_true ((decide (v5 < (v1.length : Int)))) with h4 | h4
      · rw [if_pos h4] at hr
        repeat (first | (with_reducible first | refine mv ?_ | refine m12 rfl ?_ | refine TO.nil ?_) | ((with_reducible apply TX.region); (focus (simp only [zl] <;> exact rfl)); (focus rfl); (try dsimp only)) | ((with_reducible apply TX.cond_true); (focus rfl); (focus (first | rfl | (simp only [z1, zn, h4]; done)))) | ((with_reducible apply TX.cond_false); (focus rfl); (focus (first | rfl | (simp only [z1, zn, h4]; done)))) | fail)
        obtain ⟨v9, h5, hr⟩ := Option.bind_eq_some_iff.1 hr
        try dsimp only at hr
        have h5m := tidx_map (f := e_i) h5
        have h5l := getI_lt h5
        try simp only [List.length_set] at h5l
        have h5a := getI_at h5
        repeat (first | (with_reducible first | refine mv ?_ | refine m12 rfl ?_ | refine TO.nil ?_) | ((with_reducible first | apply TO.ia | apply TO.ld | apply TO.asg | apply TO.mv); (repeat (focus (show _ = _; first | exact k1 rfl | exact k2 rfl | (simp only [zz, y14, e_i, Nat.reduceAdd, Nat.reduceMul, Nat.reduceLeDiff, Nat.reduceEqDiff, tindexAddr, Nat.zero_add, tload, rowOf, partT, List.getElem?_map, h4, h5m, h5l, h5a] <;> exact rfl) | exact rfl))); (with_reducible refine TO.here ?_)) | ((with_reducible apply TX.region); (focus (simp only [zl] <;> exact rfl)); (focus rfl); (try dsimp only)) | fail)
        obtain ⟨v10, h6, hr⟩ := Option.bind_eq_some_iff.1 hr
        try dsimp only at hr
        apply TO.cal (by first | rfl | (simp only [twant, z1, z7, h4, h5m, h5l, h5a] <;> rfl)) rfl goFn82 (loop_size_spec h6) rfl rfl rfl
        (repeat (focus (show _ = _; first | exact k1 rfl | exact k2 rfl | (simp only [zz, y14, e_i, Nat.reduceAdd, Nat.reduceMul, Nat.reduceLeDiff, Nat.reduceEqDiff, shift, kill, killB, frz, frzB, view, tml, tmlc, List.length_set, h4, h5m, h5l, h5a] <;> exact rfl) | exact rfl)))
        with_reducible apply TO.here
        repeat (first | (with_reducible first | refine mv ?_ | refine m12 rfl ?_ | refine TO.nil ?_) | ((with_reducible first | apply TO.bin | apply TO.asg | apply TO.mv); (repeat (focus (show _ = _; first | exact k1 rfl | exact k2 rfl | (simp only [zz, y14, e_i, Nat.reduceAdd, Nat.reduceMul, Nat.reduceLeDiff, Nat.reduceEqDiff, h4, h5m, h5l, h5a] <;> exact rfl) | exact rfl))); (with_reducible refine TO.here ?_)) | ((with_reducible apply TX.region); (focus (simp only [zl] <;> exact rfl)); (focus rfl); (try dsimp only)) | fail)
        cases hr
        refine ⟨rfl, ?_⟩
        exact Wk.ren [] rfl .nil (by (repeat (first | exact RNs.nil | refine RNs.cons .junk ?_ | refine RNs.cons (.keep rfl rfl) ?_ | refine RNs.cons (.lsl rfl rfl) ?_ | refine RNs.cons (.lsl rfl (by simp only [List.length_set])) ?_ | refine RNs.cons (.lptr rfl) ?_ | refine RNs.cons (.nil rfl) ?_ | refine RNs.cons .nl ?_ | refine RNs.cons (.keep (by simp only [h4]) rfl) ?_ | refine RNs.cons (.tuple' ?_) ?_ | refine RNs.cons (.agg' ?_) ?_)))
      · rw [if_neg (by rw [h4]; exact Bool.false_ne_true)] at hr
        repeat (first | (with_reducible first | refine mv ?_ | refine m12 rfl ?_) | ((with_reducible apply TX.cond_true); (focus rfl); (focus (first | rfl | (simp only [z1, zn, h4]; done)))) | ((with_reducible apply TX.cond_false); (focus rfl); (focus (first | rfl | (simp only [z1, zn, h4]; done)))) | fail)
        cases hr
        refine ⟨rfl, ?_⟩
        exact Wk.ren [] rfl .nil (by (repeat (first | exact RNs.nil | refine RNs.cons .junk ?_ | refine RNs.cons (.keep rfl rfl) ?_ | refine RNs.cons (.lsl rfl rfl) ?_ | refine RNs.cons (.lsl rfl (by simp only [List.length_set])) ?_ | refine RNs.cons (.lptr rfl) ?_ | refine RNs.cons (.nil rfl) ?_ | refine RNs.cons .nl ?_ | refine RNs.cons (.keep (by simp only [h4]) rfl) ?_ | refine RNs.cons (.tuple' ?_) ?_ | refine RNs.cons (.agg' ?_) ?_)))
    · intro e h; cases h
    · try dsimp only
      repeat (first | (with_reducible first | refine mv ?_ | refine m12 rfl ?_ | refine TO.nil ?_) | ((with_reducible first | apply TO.mv | apply TO.fa | apply TO.ld | apply TO.bin); (repeat (focus (show _ = _; first | exact k1 rfl | exact k2 rfl | (simp only [zz, y14, e_i, Nat.reduceAdd, Nat.reduceMul, Nat.reduceLeDiff, Nat.reduceEqDiff, tfieldAddr, tload, rowOf, partT, List.getElem?_map] <;> exact rfl) | exact rfl))); (with_reducible refine TO.here ?_)) | ((with_reducible apply TX.region); (focus (simp only [zl] <;> exact rfl)); (focus rfl); (try dsimp only)) | fail)
      obtain ⟨v12, h8, hr⟩ := Option.bind_eq_some_iff.1 hr
      try dsimp only at hr
      apply TO.cal (by first | rfl | (simp only [twant, z1, z7] <;> rfl)) rfl goFn84 (loop_ceiling_spec h8) rfl rfl rfl
      (repeat (focus (show _ = _; first | exact k1 rfl | exact k2 rfl | (simp only [zz, y14, e_i, Nat.reduceAdd, Nat.reduceMul, Nat.reduceLeDiff, Nat.reduceEqDiff, shift, kill, killB, frz, frzB, view, tml, tmlc, List.length_set] <;> exact rfl) | exact rfl)))
      with_reducible apply TO.here
      repeat (first | (with_reducible first | refine mv ?_ | refine m12 rfl ?_ | refine TO.nil ?_) | ((with_reducible first | apply TO.asg); (repeat (focus (show _ = _; first | exact k1 rfl | exact k2 rfl | (simp only [zz, y14, e_i, Nat.reduceAdd, Nat.reduceMul, Nat.reduceLeDiff, Nat.reduceEqDiff] <;> exact rfl) | exact rfl))); (with_reducible refine TO.here ?_)) | ((with_reducible apply TX.region); (focus (simp only [zl] <;> exact rfl)); (focus rfl); (try dsimp only)) | fail)
      cases hr
      refine ⟨.inr rfl, _, (by simp only [zy, y14, e_i, tresAll, tres, tload, rowOf, partT]; exact rfl), ?_⟩
      exact wr [] rfl .nil
    · try dsimp only
      exact wr [] rfl .nil
  rfl

end Go.Rex

namespace Go.Rex
open Go.Proofs
open Go Go.Rex Go.RowKit
set_option maxRecDepth 100000
set_option maxHeartbeats 200000
def y15 := an @ag24 <| an @ag86 <| an @cs24 <| an @cs86 <| an @ok24 <| an @ok86 <| an @st86 <| @zc86
theorem loop_SizeOf_spec {v1 : (List Int)} {v2 : Int} {v3 : Int} {v4 : Int} (hr : loop_SizeOf v1 v2 = some (v3, v4)) : Spec (lim Try.prog) 114 [.agg [.list 1 (v1.map e_i), .v (.int .i64 v2)]] ⟨[.tuple [.v (.int .i64 v3), .v (.int .i64 v4)]], []⟩ := by
  unfold loop_SizeOf at hr
  apply Spec.fn Try.func114 rfl
  focus (simp [Try.f114] <;> exact rfl)
  focus
    repeat (first | (with_reducible first | refine mv ?_ | refine m12 rfl ?_ | refine TO.nil ?_) | ((with_reducible first | apply TO.bf | apply TO.asg | apply TO.ld | apply TO.bld | apply TO.al | apply TO.sv); (repeat (focus (show _ = _; first | exact k1 rfl | exact k2 rfl | (simp only [zz, y15, e_i, Nat.reduceAdd, Nat.reduceMul, Nat.reduceLeDiff, Nat.reduceEqDiff, tload, rowOf, partT, List.getElem?_map, tbuild, tfill] <;> exact rfl) | exact rfl))); (with_reducible refine TO.here ?_)) | ((with_reducible apply TX.region); (focus (simp only [zl] <;> exact rfl)); (focus rfl); (try dsimp only)) | fail)
    obtain ⟨v5, h1, hr⟩ := Option.bind_eq_some_iff.1 hr
    try dsimp only at hr
    apply TO.cal (by first | rfl | (simp only [twant, z1, z7] <;> rfl)) rfl goFn49 (loop_feedback_check_spec h1) rfl rfl rfl
    (repeat (focus (show _ = _; first | exact k1 rfl | exact k2 rfl | (simp only [zz, y15, e_i, Nat.reduceAdd, Nat.reduceMul, Nat.reduceLeDiff, Nat.reduceEqDiff, shift, kill, killB, frz, frzB, view, tml, tmlc, List.length_set] <;> exact rfl) | exact rfl)))
    with_reducible apply TO.here
    repeat (first | (with_reducible first | refine mv ?_ | refine m12 rfl ?_ | refine TO.nil ?_) | ((with_reducible first | apply TO.asg | apply TO.mv | apply TO.bin); (repeat (focus (show _ = _; first | exact k1 rfl | exact k2 rfl | (simp only [zz, y15, e_i, Nat.reduceAdd, Nat.reduceMul, Nat.reduceLeDiff, Nat.reduceEqDiff] <;> exact rfl) | exact rfl))); (with_reducible refine TO.here ?_)) | ((with_reducible apply TX.region); (focus (simp only [zl] <;> exact rfl)); (focus rfl); (try dsimp only)) | ((with_reducible apply TX.cond_true); (focus rfl); (focus (first | rfl | (simp only [z1, zn]; done)))) | ((with_reducible apply TX.cond_false); (focus rfl); (focus (first | rfl | (simp only [z1, zn]; done)))) | fail)
    rcases Bool.eq_false_or_eq_true ((decide (v5 ≠ 0))) with h2 | h2
    · rw [if_pos h2] at hr
      repeat (first | (with_reducible first | refine mv ?_ | refine m12 rfl ?_ | refine TO.nil ?_) | ((with_reducible first | apply TO.mv | apply TO.asg); (repeat (focus (show _ = _; first | exact k1 rfl | exact k2 rfl | (simp only [zz, y15, e_i, Nat.reduceAdd, Nat.reduceMul, Nat.reduceLeDiff, Nat.reduceEqDiff, h2] <;> exact rfl) | exact rfl))); (with_reducible refine TO.here ?_)) | ((with_reducible apply TX.region); (focus (simp only [zl] <;> exact rfl)); (focus rfl); (try dsimp only)) | ((with_reducible apply TX.cond_true); (focus rfl); (focus (first | rfl | (simp only [z1, zn, h2]; done)))) | ((with_reducible apply TX.cond_false); (focus rfl); (focus (first | rfl | (simp only [z1, zn, h2]; done)))) | fail)
      cases hr
      refine ⟨.inr rfl, _, (by simp only [zy, y15, e_i, tresAll, tres, tload, rowOf, partT, h2]; exact rfl), ?_⟩
      exact Wk.ren [] rfl .nil (by (repeat (first | exact RNs.nil | refine RNs.cons .junk ?_ | refine RNs.cons (.keep rfl rfl) ?_ | refine RNs.cons (.lsl rfl rfl) ?_ | refine RNs.cons (.lsl rfl (by simp only [List.length_set])) ?_ | refine RNs.cons (.lptr rfl) ?_ | refine RNs.cons (.nil rfl) ?_ | refine RNs.cons .nl ?_ | refine RNs.cons (.keep (by simp only [h2]) rfl) ?_ | refine RNs.cons (.tuple' ?_) ?_ | refine RNs.cons (.agg' ?_) ?_)))
    · rw [if_neg (by rw [h2]; exact Bool.false_ne_true)] at hr
      repeat (first | (with_reducible first | refine mv ?_ | refine m12 rfl ?_ | refine TO.nil ?_) | ((with_reducible first | apply TO.ld); (repeat (focus (show _ = _; first | exact k1 rfl | exact k2 rfl | (simp only [zz, y15, e_i, Nat.reduceAdd, Nat.reduceMul, Nat.reduceLeDiff, Nat.reduceEqDiff, tload, rowOf, partT, List.getElem?_map, h2] <;> exact rfl) | exact rfl))); (with_reducible refine TO.here ?_)) | ((with_reducible apply TX.region); (focus (simp only [zl] <;> exact rfl)); (focus rfl); (try dsimp only)) | ((with_reducible apply TX.cond_true); (focus rfl); (focus (first | rfl | (simp only [z1, zn, h2]; done)))) | ((with_reducible apply TX.cond_false); (focus rfl); (focus (first | rfl | (simp only [z1, zn, h2]; done)))) | fail)
      obtain ⟨v6, h3, hr⟩ := Option.bind_eq_some_iff.1 hr
      try dsimp only at hr
      apply TO.cal (by first | rfl | (simp only [twant, z1, z7, h2] <;> rfl)) rfl goFn129 (loop_feedback_size_spec h3) rfl rfl rfl
      (repeat (focus (show _ = _; first | exact k1 rfl | exact k2 rfl | (simp only [zz, y15, e_i, Nat.reduceAdd, Nat.reduceMul, Nat.reduceLeDiff, Nat.reduceEqDiff, shift, kill, killB, frz, frzB, view, tml, tmlc, List.length_set, h2] <;> exact rfl) | exact rfl)))
      with_reducible apply TO.here
      repeat (first | (with_reducible first | refine mv ?_ | refine m12 rfl ?_ | refine TO.nil ?_) | ((with_reducible first | apply TO.asg); (repeat (focus (show _ = _; first | exact k1 rfl | exact k2 rfl | (simp only [zz, y15, e_i, Nat.reduceAdd, Nat.reduceMul, Nat.reduceLeDiff, Nat.reduceEqDiff, h2] <;> exact rfl) | exact rfl))); (with_reducible refine TO.here ?_)) | ((with_reducible apply TX.region); (focus (simp only [zl] <;> exact rfl)); (focus rfl); (try dsimp only)) | fail)
      cases hr
      refine ⟨.inr rfl, _, (by simp only [zy, y15, e_i, tresAll, tres, tload, rowOf, partT, h2]; exact rfl), ?_⟩
      exact Wk.ren [] rfl .nil (by (repeat (first | exact RNs.nil | refine RNs.cons .junk ?_ | refine RNs.cons (.keep rfl rfl) ?_ | refine RNs.cons (.lsl rfl rfl) ?_ | refine RNs.cons (.lsl rfl (by simp only [List.length_set])) ?_ | refine RNs.cons (.lptr rfl) ?_ | refine RNs.cons (.nil rfl) ?_ | refine RNs.cons .nl ?_ | refine RNs.cons (.keep (by simp only [h2]) rfl) ?_ | refine RNs.cons (.tuple' ?_) ?_ | refine RNs.cons (.agg' ?_) ?_)))
  rfl

end Go.Rex

namespace Go.Rex
open Go.Proofs
open Go Go.Rex Go.RowKit
set_option maxRecDepth 100000
set_option maxHeartbeats 1000000
def y16 := an @ag24 <| an @by3 <| an @cs24 <| an @cs3 <| an @ni22 <| an @ok24 <| an @so22 <| an @so74 <| an @zc24 <| an @zc3 <| @wi64_0a1
theorem loop_sizesOf_spec {v1 : (List ((List Int) × Int))} {v2 : Int} {v3 : (List Int)} {v4 : Int} (hr : loop_sizesOf v1 v2 = some (v3, v4)) : Spec (lim Try.prog) 74 [.list 2 (v1.map e_Li_i), .v (.int .i64 v2)] ⟨[.tuple [.lsl 0 0 v3.length, .v (.int .i64 v4)]], [.rows 1 (v3.map e_i)]⟩ := by
  unfold loop_sizesOf at hr
  apply Spec.fn Try.func74 rfl
  focus (simp [Try.f74] <;> exact rfl)
  focus
    repeat (first | (with_reducible first | refine mv ?_ | refine m12 rfl ?_ | refine TO.nil ?_) | ((with_reducible first | apply TO.asg | apply TO.mv | apply TO.len | apply TO.bin); (repeat (focus (show _ = _; first | exact k1 rfl | exact k2 rfl | (simp only [zz, y16, e_Li_i, e_i, Nat.reduceAdd, Nat.reduceMul, Nat.reduceLeDiff, Nat.reduceEqDiff, tlen] <;> exact rfl) | exact rfl))); (with_reducible refine TO.here ?_)) | ((with_reducible apply TX.region); (focus (simp only [zl] <;> exact rfl)); (focus rfl); (try dsimp only)) | ((with_reducible apply TX.cond_true); (focus rfl); (focus (first | rfl | (simp only [z1, zn]; done)))) | ((with_reducible apply TX.cond_false); (focus rfl); (focus (first | rfl | (simp only [z1, zn]; done)))) | fail)
    rcases Bool.eq_false_or_eq_true ((decide ((v1.length : Int) ≠ v2))) with h1 | h1
    · rw [if_pos h1] at hr
      repeat (first | (with_reducible first | refine mv ?_ | refine m12 rfl ?_ | refine TO.nil ?_) | ((with_reducible first | apply TO.asg); (repeat (focus (show _ = _; first | exact k1 rfl | exact k2 rfl | (simp only [zz, y16, e_Li_i, e_i, Nat.reduceAdd, Nat.reduceMul, Nat.reduceLeDiff, Nat.reduceEqDiff, h1] <;> exact rfl) | exact rfl))); (with_reducible refine TO.here ?_)) | ((with_reducible apply TX.region); (focus (simp only [zl] <;> exact rfl)); (focus rfl); (try dsimp only)) | ((with_reducible apply TX.cond_true); (focus rfl); (focus (first | rfl | (simp only [z1, zn, h1]; done)))) | ((with_reducible apply TX.cond_false); (focus rfl); (focus (first | rfl | (simp only [z1, zn, h1]; done)))) | fail)
      cases hr
      refine ⟨.inr rfl, _, (by simp only [zy, y16, e_Li_i, e_i, tresAll, tres, tload, rowOf, partT, h1]; exact rfl), ?_⟩
      exact Wk.ren [none] rfl (.virt .nil) (by (repeat (first | exact RNs.nil | refine RNs.cons .junk ?_ | refine RNs.cons (.keep rfl rfl) ?_ | refine RNs.cons (.lsl rfl rfl) ?_ | refine RNs.cons (.lsl rfl (by simp only [List.length_set])) ?_ | refine RNs.cons (.lptr rfl) ?_ | refine RNs.cons (.nil rfl) ?_ | refine RNs.cons .nl ?_ | refine RNs.cons (.keep (by simp only [h1]) rfl) ?_ | refine RNs.cons (.tuple' ?_) ?_ | refine RNs.cons (.agg' ?_) ?_)))
    · rw [if_neg (by rw [h1]; exact Bool.false_ne_true)] at hr
      repeat (first | (with_reducible first | refine mv ?_ | refine m12 rfl ?_ | refine TO.nil ?_) | ((with_reducible first | apply TO.asg | apply TO.mv | apply TO.len); (repeat (focus (show _ = _; first | exact k1 rfl | exact k2 rfl | (simp only [zz, y16, e_Li_i, e_i, Nat.reduceAdd, Nat.reduceMul, Nat.reduceLeDiff, Nat.reduceEqDiff, tlen, h1] <;> exact rfl) | exact rfl))); (with_reducible refine TO.here ?_)) | ((with_reducible apply TX.region); (focus (simp only [zl] <;> exact rfl)); (focus rfl); (try dsimp only)) | ((with_reducible apply TX.cond_true); (focus rfl); (focus (first | rfl | (simp only [z1, zn, h1]; done)))) | ((with_reducible apply TX.cond_false); (focus rfl); (focus (first | rfl | (simp only [z1, zn, h1]; done)))) | fail)
      apply TX.vt (α := Int) e_i 6 1 rfl
      (repeat (focus (show _ = _; first | exact k1 rfl | exact k2 rfl | (simp only [zz, y16, e_Li_i, e_i, Nat.reduceAdd, Nat.reduceMul, Nat.reduceLeDiff, Nat.reduceEqDiff, h1] <;> exact rfl) | exact rfl)))
      with_reducible apply TX.here
      repeat (first | (with_reducible first | refine mv ?_ | refine m12 rfl ?_) | fail)
      obtain ⟨v19, h14, hr⟩ := Option.bind_eq_some_iff.1 hr
      refine TX.loopE (step := loop_sizesOf_l1 v1) (x := (([] : List Int), 0)) h14 (fun (v5, v6) => ⟨.junk :: .junk :: .junk :: .junk :: .junk :: .junk :: .lsl 0 0 v5.length :: .junk :: .junk :: .junk :: .junk :: .junk :: .junk :: .junk :: .junk :: .list 2 (v1.map e_Li_i) :: .v (.int .i64 (v1.length : Int)) :: .v (.int .i64 v6) :: .junk :: .junk :: .junk :: .junk :: .junk :: .junk :: .junk :: .junk :: .junk :: .junk :: .junk :: .junk :: .junk :: .junk :: .junk :: .junk :: .junk :: .junk :: .junk :: [], [.rows 1 (v5.map e_i)]⟩) (fun e => match e with | (.inl v12) => (.ret, ⟨.junk :: .junk :: .junk :: .junk :: .v (.slice none 0 0) :: .v (.int .i64 v12) :: .junk :: .junk :: .junk :: .junk :: .junk :: .junk :: .junk :: .junk :: .junk :: .junk :: .junk :: .junk :: .junk :: .junk :: .junk :: .junk :: .junk :: .junk :: .junk :: .junk :: .junk :: .junk :: .junk :: .junk :: .junk :: .junk :: .junk :: .junk :: .junk :: .junk :: .junk :: [], []⟩) | (.inr v13) => (.exit 0, ⟨.junk :: .junk :: .junk :: .junk :: .junk :: .junk :: .lsl 0 0 v13.length :: .junk :: .junk :: .junk :: .junk :: .junk :: .junk :: .junk :: .junk :: .junk :: .junk :: .junk :: .junk :: .junk :: .junk :: .junk :: .junk :: .junk :: .junk :: .junk :: .junk :: .junk :: .junk :: .junk :: .junk :: .junk :: .junk :: .junk :: .junk :: .junk :: .junk :: [], [.rows 1 (v13.map e_i)]⟩)) ?_ ?_ ?_ ?_
      · rintro ⟨v5, v6⟩ v0 hr
        dsimp only [loop_sizesOf_l1] at hr
        try dsimp only
        repeat (first | (with_reducible first | refine mv ?_ | refine m12 rfl ?_ | refine TO.nil ?_) | ((with_reducible first | apply TO.bin); (repeat (focus (show _ = _; first | exact k1 rfl | exact k2 rfl | (simp only [zz, y16, e_Li_i, e_i, Nat.reduceAdd, Nat.reduceMul, Nat.reduceLeDiff, Nat.reduceEqDiff, h1] <;> exact rfl) | exact rfl))); (with_reducible refine TO.here ?_)) | ((with_reducible apply TX.region); (focus (simp only [zl] <;> exact rfl)); (focus rfl); (try dsimp only)) | ((with_reducible apply TX.cond_true); (focus rfl); (focus (first | rfl | (simp only [z1, zn, h1]; done)))) | ((with_reducible apply TX.cond_false); (focus rfl); (focus (first | rfl | (simp only [z1, zn, h1]; done)))) | fail)
        rcases Bool.eq_false_or_eq_true ((decide (v6 < (v1.length : Int)))) with h8 | h8
        · rw [if_pos h8] at hr
          repeat (first | (with_reducible first | refine mv ?_ | refine m12 rfl ?_ | refine TO.nil ?_) | ((with_reducible apply TX.region); (focus (simp only [zl] <;> exact rfl)); (focus rfl); (try dsimp only)) | ((with_reducible apply TX.cond_true); (focus rfl); (focus (first | rfl | (simp only [z1, zn, h1, h8]; done)))) | ((with_reducible apply TX.cond_false); (focus rfl); (focus (first | rfl | (simp only [z1, zn, h1, h8]; done)))) | fail)
          obtain ⟨⟨v14, v15⟩, h9, hr⟩ := Option.bind_eq_some_iff.1 hr
          try dsimp only at hr
          have h9m := tidx_map (f := e_Li_i) h9
          have h9l := getI_lt h9
          try simp only [List.length_set] at h9l
          have h9a := getI_at h9
          repeat (first | (with_reducible first | refine mv ?_ | refine m12 rfl ?_ | refine TO.nil ?_) | ((with_reducible first | apply TO.ia | apply TO.ld | apply TO.al | apply TO.sv); (repeat (focus (show _ = _; first | exact k1 rfl | exact k2 rfl | (simp only [zz, y16, e_Li_i, e_i, Nat.reduceAdd, Nat.reduceMul, Nat.reduceLeDiff, Nat.reduceEqDiff, tindexAddr, Nat.zero_add, tload, rowOf, partT, List.getElem?_map, h1, h8, h9m, h9l, h9a] <;> exact rfl) | exact rfl))); (with_reducible refine TO.here ?_)) | ((with_reducible apply TX.region); (focus (simp only [zl] <;> exact rfl)); (focus rfl); (try dsimp only)) | fail)
          obtain ⟨⟨v16, v17⟩, h10, hr⟩ := Option.bind_eq_some_iff.1 hr
          try dsimp only at hr
          apply TO.cal (by first | rfl | (simp only [twant, z1, z7, h1, h8, h9m, h9l, h9a] <;> rfl)) rfl goFn114 (loop_SizeOf_spec h10) rfl rfl rfl
          (repeat (focus (show _ = _; first | exact k1 rfl | exact k2 rfl | (simp only [zz, y16, e_Li_i, e_i, Nat.reduceAdd, Nat.reduceMul, Nat.reduceLeDiff, Nat.reduceEqDiff, shift, kill, killB, frz, frzB, view, tml, tmlc, List.length_set, h1, h8, h9m, h9l, h9a] <;> exact rfl) | exact rfl)))
          with_reducible apply TO.here
          repeat (first | (with_reducible first | refine mv ?_ | refine m12 rfl ?_ | refine TO.nil ?_) | ((with_reducible first | apply TO.mv | apply TO.ext | apply TO.asg | apply TO.bin); (repeat (focus (show _ = _; first | exact k1 rfl | exact k2 rfl | (simp only [zz, y16, e_Li_i, e_i, Nat.reduceAdd, Nat.reduceMul, Nat.reduceLeDiff, Nat.reduceEqDiff, h1, h8, h9m, h9l, h9a] <;> exact rfl) | exact rfl))); (with_reducible refine TO.here ?_)) | ((with_reducible apply TX.region); (focus (simp only [zl] <;> exact rfl)); (focus rfl); (try dsimp only)) | ((with_reducible apply TX.cond_true); (focus rfl); (focus (first | rfl | (simp only [z1, zn, h1, h8, h9m, h9l, h9a]; done)))) | ((with_reducible apply TX.cond_false); (focus rfl); (focus (first | rfl | (simp only [z1, zn, h1, h8, h9m, h9l, h9a]; done)))) | fail)
          rcases Bool.eq_false_or_eq_true ((decide (v17 ≠ 0))) with h11 | h11
          · rw [if_pos h11] at hr
            repeat (first | (with_reducible first | refine mv ?_ | refine m12 rfl ?_ | refine TO.nil ?_) | ((with_reducible first | apply TO.mv | apply TO.asg); (repeat (focus (show _ = _; first | exact k1 rfl | exact k2 rfl | (simp only [zz, y16, e_Li_i, e_i, Nat.reduceAdd, Nat.reduceMul, Nat.reduceLeDiff, Nat.reduceEqDiff, h1, h8, h9m, h9l, h9a, h11] <;> exact rfl) | exact rfl))); (with_reducible refine TO.here ?_)) | ((with_reducible apply TX.region); (focus (simp only [zl] <;> exact rfl)); (focus rfl); (try dsimp only)) | ((with_reducible apply TX.cond_true); (focus rfl); (focus (first | rfl | (simp only [z1, zn, h1, h8, h9m, h9l, h9a, h11]; done)))) | ((with_reducible apply TX.cond_false); (focus rfl); (focus (first | rfl | (simp only [z1, zn, h1, h8, h9m, h9l, h9a, h11]; done)))) | fail)
            cases hr
            refine ⟨rfl, ?_⟩
            exact Wk.ren [] rfl .nil (by (repeat (first | exact RNs.nil | refine RNs.cons .junk ?_ | refine RNs.cons (.keep rfl rfl) ?_ | refine RNs.cons (.lsl rfl rfl) ?_ | refine RNs.cons (.lsl rfl (by simp only [List.length_set])) ?_ | refine RNs.cons (.lptr rfl) ?_ | refine RNs.cons (.nil rfl) ?_ | refine RNs.cons .nl ?_ | refine RNs.cons (.keep (by simp only [h1, h8, h11]) rfl) ?_ | refine RNs.cons (.tuple' ?_) ?_ | refine RNs.cons (.agg' ?_) ?_)))
          · rw [if_neg (by rw [h11]; exact Bool.false_ne_true)] at hr
            repeat (first | (with_reducible first | refine mv ?_ | refine m12 rfl ?_ | refine TO.nil ?_) | ((with_reducible first | apply TO.mv | apply TO.bin); (repeat (focus (show _ = _; first | exact k1 rfl | exact k2 rfl | (simp only [zz, y16, e_Li_i, e_i, Nat.reduceAdd, Nat.reduceMul, Nat.reduceLeDiff, Nat.reduceEqDiff, h1, h8, h9m, h9l, h9a, h11] <;> exact rfl) | exact rfl))); (with_reducible refine TO.here ?_)) | ((with_reducible apply TX.region); (focus (simp only [zl] <;> exact rfl)); (focus rfl); (try dsimp only)) | ((with_reducible apply TX.cond_true); (focus rfl); (focus (first | rfl | (simp only [z1, zn, h1, h8, h9m, h9l, h9a, h11]; done)))) | ((with_reducible apply TX.cond_false); (focus rfl); (focus (first | rfl | (simp only [z1, zn, h1, h8, h9m, h9l, h9a, h11]; done)))) | fail)
            rcases Bool.eq_false_or_eq_true ((decide (v16 > 2000))) with h12 | h12
            · rw [if_pos h12] at hr
              repeat (first | (with_reducible first | refine mv ?_ | refine m12 rfl ?_ | refine TO.nil ?_) | ((with_reducible first | apply TO.asg); (repeat (focus (show _ = _; first | exact k1 rfl | exact k2 rfl | (simp only [zz, y16, e_Li_i, e_i, Nat.reduceAdd, Nat.reduceMul, Nat.reduceLeDiff, Nat.reduceEqDiff, h1, h8, h9m, h9l, h9a, h11, h12] <;> exact rfl) | exact rfl))); (with_reducible refine TO.here ?_)) | ((with_reducible apply TX.region); (focus (simp only [zl] <;> exact rfl)); (focus rfl); (try dsimp only)) | ((with_reducible apply TX.cond_true); (focus rfl); (focus (first | rfl | (simp only [z1, zn, h1, h8, h9m, h9l, h9a, h11, h12]; done)))) | ((with_reducible apply TX.cond_false); (focus rfl); (focus (first | rfl | (simp only [z1, zn, h1, h8, h9m, h9l, h9a, h11, h12]; done)))) | fail)
              cases hr
              refine ⟨rfl, ?_⟩
              exact Wk.ren [] rfl .nil (by (repeat (first | exact RNs.nil | refine RNs.cons .junk ?_ | refine RNs.cons (.keep rfl rfl) ?_ | refine RNs.cons (.lsl rfl rfl) ?_ | refine RNs.cons (.lsl rfl (by simp only [List.length_set])) ?_ | refine RNs.cons (.lptr rfl) ?_ | refine RNs.cons (.nil rfl) ?_ | refine RNs.cons .nl ?_ | refine RNs.cons (.keep (by simp only [h1, h8, h11, h12]) rfl) ?_ | refine RNs.cons (.tuple' ?_) ?_ | refine RNs.cons (.agg' ?_) ?_)))
            · rw [if_neg (by rw [h12]; exact Bool.false_ne_true)] at hr
              repeat (first | (with_reducible first | refine mv ?_ | refine m12 rfl ?_ | refine TO.nil ?_) | ((with_reducible first | apply TO.mv); (repeat (focus (show _ = _; first | exact k1 rfl | exact k2 rfl | (simp only [zz, y16, e_Li_i, e_i, Nat.reduceAdd, Nat.reduceMul, Nat.reduceLeDiff, Nat.reduceEqDiff, h1, h8, h9m, h9l, h9a, h11, h12] <;> exact rfl) | exact rfl))); (with_reducible refine TO.here ?_)) | ((with_reducible apply TX.region); (focus (simp only [zl] <;> exact rfl)); (focus rfl); (try dsimp only)) | ((with_reducible apply TX.cond_true); (focus rfl); (focus (first | rfl | (simp only [z1, zn, h1, h8, h9m, h9l, h9a, h11, h12]; done)))) | ((with_reducible apply TX.cond_false); (focus rfl); (focus (first | rfl | (simp only [z1, zn, h1, h8, h9m, h9l, h9a, h11, h12]; done)))) | fail)
              apply TO.bm e_i ([v16] : List Int) (by first | rfl | (simp only [twant, z1, z7, h1, h8, h9m, h9l, h9a, h11, h12] <;> rfl)) rfl (by simp only [zz, y16, e_Li_i, e_i, Nat.reduceAdd, Nat.reduceMul, Nat.reduceLeDiff, Nat.reduceEqDiff, tslice, tparts, h1, h8, h9m, h9l, h9a, h11, h12]; exact rfl) rfl
              (repeat (focus (show _ = _; first | exact k1 rfl | exact k2 rfl | (simp only [zz, y16, e_Li_i, e_i, Nat.reduceAdd, Nat.reduceMul, Nat.reduceLeDiff, Nat.reduceEqDiff, tslice, tparts, h1, h8, h9m, h9l, h9a, h11, h12] <;> exact rfl) | exact rfl)))
              with_reducible apply TO.here
              repeat (first | (with_reducible first | refine mv ?_ | refine m12 rfl ?_ | refine TO.nil ?_) | ((with_reducible apply TX.region); (focus (simp only [zl] <;> exact rfl)); (focus rfl); (try dsimp only)) | fail)
              obtain ⟨v18, h13, hr⟩ := Option.bind_eq_some_iff.1 hr
              try dsimp only at hr
              apply TO.ap (f := e_i) (xs := v5) (ys := ([v16] : List Int)) (by first | rfl | (simp only [twant, z1, z7, h1, h8, h9m, h9l, h9a, h11, h12] <;> rfl)) rfl rfl (by first | rfl | simp only [List.length_set]) rfl rfl so22 ni22 zc3 rfl (by rw [by3]; exact h13) (fun _ => ⟨rfl, rfl, rfl⟩)
              (repeat (focus (show _ = _; first | exact k1 rfl | exact k2 rfl | (simp only [zz, y16, e_Li_i, e_i, Nat.reduceAdd, Nat.reduceMul, Nat.reduceLeDiff, Nat.reduceEqDiff, shift, kill, killB, frz, frzB, view, tml, tmlc, List.length_set, h1, h8, h9m, h9l, h9a, h11, h12] <;> exact rfl) | exact rfl)))
              with_reducible apply TO.here
              repeat (first | (with_reducible first | refine mv ?_ | refine m12 rfl ?_ | refine TO.nil ?_) | ((with_reducible first | apply TO.asg | apply TO.bin | apply TO.mv); (repeat (focus (show _ = _; first | exact k1 rfl | exact k2 rfl | (simp only [zz, y16, e_Li_i, e_i, Nat.reduceAdd, Nat.reduceMul, Nat.reduceLeDiff, Nat.reduceEqDiff, h1, h8, h9m, h9l, h9a, h11, h12] <;> exact rfl) | exact rfl))); (with_reducible refine TO.here ?_)) | ((with_reducible apply TX.region); (focus (simp only [zl] <;> exact rfl)); (focus rfl); (try dsimp only)) | fail)
              cases hr
              refine ⟨rfl, ?_⟩
              exact Wk.ren [some 0] rfl (.rows .nil rfl rfl) (by (repeat (first | exact RNs.nil | refine RNs.cons .junk ?_ | refine RNs.cons (.keep rfl rfl) ?_ | refine RNs.cons (.lsl rfl rfl) ?_ | refine RNs.cons (.lsl rfl (by simp only [List.length_set])) ?_ | refine RNs.cons (.lptr rfl) ?_ | refine RNs.cons (.nil rfl) ?_ | refine RNs.cons .nl ?_ | refine RNs.cons (.keep (by simp only [h1, h8, h11, h12]) rfl) ?_ | refine RNs.cons (.tuple' ?_) ?_ | refine RNs.cons (.agg' ?_) ?_)))
        · rw [if_neg (by rw [h8]; exact Bool.false_ne_true)] at hr
          repeat (first | (with_reducible first | refine mv ?_ | refine m12 rfl ?_) | ((with_reducible apply TX.cond_true); (focus rfl); (focus (first | rfl | (simp only [z1, zn, h1, h8]; done)))) | ((with_reducible apply TX.cond_false); (focus rfl); (focus (first | rfl | (simp only [z1, zn, h1, h8]; done)))) | fail)
          cases hr
          refine ⟨rfl, ?_⟩
          exact Wk.ren [some 0] rfl (.rows .nil rfl rfl) (by (repeat (first | exact RNs.nil | refine RNs.cons .junk ?_ | refine RNs.cons (.keep rfl rfl) ?_ | refine RNs.cons (.lsl rfl rfl) ?_ | refine RNs.cons (.lsl rfl (by simp only [List.length_set])) ?_ | refine RNs.cons (.lptr rfl) ?_ | refine RNs.cons (.nil rfl) ?_ | refine RNs.cons .nl ?_ | refine RNs.cons (.keep (by simp only [h1, h8]) rfl) ?_ | refine RNs.cons (.tuple' ?_) ?_ | refine RNs.cons (.agg' ?_) ?_)))
      · intro e h; rcases e with _ | e <;> cases h
      · try dsimp only
        rcases v19 with v20 | v21
        · try dsimp only at hr
          try dsimp only
          repeat (first | (with_reducible first | refine mv ?_ | refine m12 rfl ?_) | fail)
          cases hr
          refine ⟨.inr rfl, _, (by simp only [zy, y16, e_Li_i, e_i, tresAll, tres, tload, rowOf, partT, h1]; exact rfl), ?_⟩
          exact Wk.ren [none] rfl (.virt .nil) (by (repeat (first | exact RNs.nil | refine RNs.cons .junk ?_ | refine RNs.cons (.keep rfl rfl) ?_ | refine RNs.cons (.lsl rfl rfl) ?_ | refine RNs.cons (.lsl rfl (by simp only [List.length_set])) ?_ | refine RNs.cons (.lptr rfl) ?_ | refine RNs.cons (.nil rfl) ?_ | refine RNs.cons .nl ?_ | refine RNs.cons (.keep (by simp only [h1]) rfl) ?_ | refine RNs.cons (.tuple' ?_) ?_ | refine RNs.cons (.agg' ?_) ?_)))
        · try dsimp only at hr
          try dsimp only
          repeat (first | (with_reducible first | refine mv ?_ | refine m12 rfl ?_ | refine TO.nil ?_) | ((with_reducible first | apply TO.mv | apply TO.asg); (repeat (focus (show _ = _; first | exact k1 rfl | exact k2 rfl | (simp only [zz, y16, e_Li_i, e_i, Nat.reduceAdd, Nat.reduceMul, Nat.reduceLeDiff, Nat.reduceEqDiff, h1] <;> exact rfl) | exact rfl))); (with_reducible refine TO.here ?_)) | ((with_reducible apply TX.region); (focus (simp only [zl] <;> exact rfl)); (focus rfl); (try dsimp only)) | fail)
          cases hr
          refine ⟨.inr rfl, _, (by simp only [zy, y16, e_Li_i, e_i, tresAll, tres, tload, rowOf, partT, h1]; exact rfl), ?_⟩
          exact Wk.ren [some 0] rfl (.rows .nil rfl rfl) (by (repeat (first | exact RNs.nil | refine RNs.cons .junk ?_ | refine RNs.cons (.keep rfl rfl) ?_ | refine RNs.cons (.lsl rfl rfl) ?_ | refine RNs.cons (.lsl rfl (by simp only [List.length_set])) ?_ | refine RNs.cons (.lptr rfl) ?_ | refine RNs.cons (.nil rfl) ?_ | refine RNs.cons .nl ?_ | refine RNs.cons (.keep (by simp only [h1]) rfl) ?_ | refine RNs.cons (.tuple' ?_) ?_ | refine RNs.cons (.agg' ?_) ?_)))
      · try dsimp only
        exact Wk.ren [some 0] rfl (.rows .nil rfl rfl) (by (repeat (first | exact RNs.nil | refine RNs.cons .junk ?_ | refine RNs.cons (.keep rfl rfl) ?_ | refine RNs.cons (.lsl rfl rfl) ?_ | refine RNs.cons (.lsl rfl (by simp only [List.length_set])) ?_ | refine RNs.cons (.lptr rfl) ?_ | refine RNs.cons (.nil rfl) ?_ | refine RNs.cons .nl ?_ | refine RNs.cons (.keep (by simp only [h1]) rfl) ?_ | refine RNs.cons (.tuple' ?_) ?_ | refine RNs.cons (.agg' ?_) ?_)))
  rfl

end Go.Rex
